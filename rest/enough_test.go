package rest

import (
	"math"
	"testing"

	"sluice/api"
	"sluice/world"
)

// sent is a world of one worker behind sendings of input 0 at some times, and all inputs are closed then.
func sent(t *testing.T, g api.Graph, times ...api.Time) *world.World {
	t.Helper()
	w := begin(t, g, 1)
	for _, u := range times {
		does(t, w, send(0, 0, u, api.Record{}))
	}
	shuts(t, w)
	return w
}

func upTo(many int) []api.Time {
	var l []api.Time
	for n := range uint64(many) {
		l = append(l, api.Time{A: n})
	}
	return l
}

func TestEnoughOfNothing(t *testing.T) { // P28.5
	for arity := 1; arity <= 3; arity++ {
		for workers := 1; workers <= api.MaxWorkers; workers++ {
			w := begin(t, graphOf(arity, nil), workers)
			enough(t, "no nodes", w, 0, api.OK)
			is(t, "no nodes", w, true, true)
			w = begin(t, graphOf(arity, nil, trap(), sum(), join(2)), workers)
			enough(t, "no tokens", w, 0, api.OK)
			is(t, "no tokens", w, true, true)
			rounds(t, "no tokens", w, 0, nil, 0, api.OK)
		}
	}
	// With batches on links alone there is no stamp; a round takes them off.
	w := begin(t, summed(), 3)
	shuts(t, w)
	enough(t, "batches alone", w, 0, api.OK)
	is(t, "batches alone", w, false, false)
	rounds(t, "batches alone", w.Copy(), 0, nil, 0, api.ErrHeavy)
	rounds(t, "batches alone", w, 1, nil, 1, api.OK)
}

func TestEnoughNodeByNode(t *testing.T) { // P28.5
	for _, c := range []struct {
		what  string
		edges []api.Edge
		nodes []api.Node
		times []api.Time
		want  int
	}{
		{"a message at a probe", []api.Edge{edge(0, 1)}, []api.Node{trap()}, upTo(1), 1},
		{"at a map", []api.Edge{edge(0, 1)}, []api.Node{mapper()}, upTo(1), 2},
		{"at a filter that lets nothing pass: codes play no part", []api.Edge{edge(0, 1), edge(1, 2)}, []api.Node{filter(api.Op{Kind: 25, Arg: 1}, api.Op{Kind: 22, Arg: 9}), trap()}, upTo(1), 3},
		{"at a join", []api.Edge{edge(0, 1)}, []api.Node{join(2)}, upTo(1), 2},
		{"at a sum", []api.Edge{keyed(0, 1)}, []api.Node{sum()}, upTo(1), 2},
		{"at a loop", []api.Edge{edge(0, 1)}, []api.Node{loop(api.Path{A: 1}, 9)}, upTo(1), 2},
		{"at a loop that lets it go", []api.Edge{edge(0, 1)}, []api.Node{loop(api.Path{A: 1}, 0)}, upTo(1), 1},
		{"without edges nothing is sent", nil, []api.Node{mapper(), trap()}, upTo(4), 0},
		{"three messages at one stamp", []api.Edge{edge(0, 1), edge(1, 2)}, []api.Node{mapper(), trap()}, append(upTo(1), upTo(1)[0], upTo(1)[0]), 3},
		{"at three stamps", []api.Edge{edge(0, 1), edge(1, 2)}, []api.Node{mapper(), trap()}, upTo(3), 9},
		{"two ways to one place", []api.Edge{edge(0, 1), edge(0, 2), edge(1, 3), {From: 2, To: 3, In: 1}, edge(3, 4)}, []api.Node{mapper(), mapper(), join(2), trap()}, upTo(1), 8},
		{"two probes behind one out-place", []api.Edge{edge(0, 1), edge(1, 2), edge(1, 3)}, []api.Node{mapper(), trap(), trap()}, upTo(1), 4},
	} {
		g := graphOf(1, c.edges, append([]api.Node{input()}, c.nodes...)...)
		w := sent(t, g, c.times...)
		enough(t, c.what, w, c.want, api.OK)
		if d, e := plainEnough(w); d != c.want || e != api.OK {
			t.Errorf("%s: counted apart: %d, %d", c.what, d, e)
		}
	}
}

func TestEnoughOfLoops(t *testing.T) { // P28.5: By(t), if that is a time, and each number at which By isn't 0 is at most Bound
	const last = math.MaxUint64
	for _, c := range []struct {
		by    api.Path
		bound uint64
		at    api.Time
		goes  bool
	}{
		{api.Path{}, 0, api.Time{A: last, B: last, C: last}, true},
		{api.Path{}, 64, api.Time{A: 65}, true},
		{api.Path{A: 1}, 0, api.Time{}, false},
		{api.Path{A: 1}, 3, api.Time{A: 2, B: 99, C: last}, true},
		{api.Path{A: 1}, 3, api.Time{A: 3}, false},
		{api.Path{A: 3}, 3, api.Time{}, true},
		{api.Path{A: 4}, 3, api.Time{}, false},
		{api.Path{B: 2}, 4, api.Time{A: last, B: 2, C: 5}, true},
		{api.Path{B: 2}, 4, api.Time{B: 3}, false},
		{api.Path{C: 1}, 1, api.Time{A: 2, B: 2}, true},
		{api.Path{C: 1}, 1, api.Time{C: 1}, false},
		{api.Path{A: 1, C: 1}, 5, api.Time{A: 4, B: 6, C: 4}, true},
		{api.Path{A: 1, C: 1}, 5, api.Time{A: 4, C: 5}, false},
		{api.Path{A: 1, C: 1}, 5, api.Time{A: 5, C: 4}, false},
		{api.Path{A: last}, 64, api.Time{A: 1}, false},
		{api.Path{A: last}, 64, api.Time{A: 2}, false},
		{api.Path{A: 1, B: last}, 64, api.Time{B: 64}, false},
		{api.Path{A: 1}, 64, api.Time{A: last}, false},
		{api.Path{A: 1}, 64, api.Time{A: 63}, true},
		{api.Path{A: 1}, 64, api.Time{A: 64}, false},
	} {
		w := sent(t, graphOf(3, []api.Edge{edge(0, 1), edge(1, 2)}, input(), loop(c.by, c.bound), trap()), c.at)
		want := 1
		if c.goes {
			want = 3
		}
		enough(t, "a loop", w, want, api.OK)
		if d, _ := plainEnough(w); d != want {
			t.Errorf("%v: counted apart: %d", c, d)
		}
		// What a step makes of it is the same.
		does(t, w, step(0))
		if caught := len(w.Caught(2)) == 1; caught != c.goes {
			t.Errorf("%v: caught: %v", c, caught)
		}
	}
	// Two loops in one round, and one from whose out-place two edges lead.
	g := graphOf(1, []api.Edge{edge(0, 1), edge(1, 2), edge(2, 3), {From: 3, To: 1, In: 1}, edge(3, 4)}, input(), join(2), loop(api.Path{A: 1}, 4), loop(api.Path{}, 0), trap())
	enough(t, "from 0 to 4", sent(t, g, api.Time{}), 1+5+5+4+4+4+4+4, api.OK)
	enough(t, "at 4", sent(t, g, api.Time{A: 4}), 3, api.OK)
	enough(t, "above the bound", sent(t, g, api.Time{A: 9}), 3, api.OK)
}

func TestEnoughOfWhatASumHolds(t *testing.T) { // P28.5: what stands at out-places
	g := graphOf(1, []api.Edge{keyed(0, 1), edge(1, 2), edge(2, 3)}, input(), sum(), mapper(), trap())
	w := begin(t, g, 1)
	does(t, w, send(0, 0, api.Time{A: 2}, api.Record{}), send(0, 0, api.Time{A: 5}, api.Record{}), step(0))
	does(t, w, send(0, 0, api.Time{A: 5}, api.Record{}))
	shuts(t, w)
	// Of 2: 2, 3, 4, 5; of 5 the sum's in-place, too.
	enough(t, "a sum holds", w, 9, api.OK)
}

func TestEnoughAtItsLimit(t *testing.T) { // P28.5: just 4096 are told
	// Each record that input 0 sends is at four stamps, each of input 1 at one.
	g := graphOf(1, []api.Edge{edge(0, 2), edge(2, 3), edge(2, 5), edge(1, 4)}, input(), input(), mapper(), trap(), trap(), trap())
	for _, c := range []struct {
		one, other int
		d          int
		e          api.Errno
	}{{1024, 0, 4096, api.OK}, {1023, 3, 4095, api.OK}, {1023, 4, 4096, api.OK}, {1023, 5, 0, api.ErrHeavy}, {1024, 1, 0, api.ErrHeavy}, {1025, 0, 0, api.ErrHeavy}, {2000, 48, 0, api.ErrHeavy}} {
		w := begin(t, g, 1)
		for _, u := range upTo(c.one) {
			does(t, w, send(0, 0, u, api.Record{}))
		}
		for _, u := range upTo(c.other) {
			does(t, w, send(0, 1, u, api.Record{}))
		}
		shuts(t, w)
		enough(t, "one by one", w, c.d, c.e)
	}
	// The tokens alone are as many.
	w := begin(t, graphOf(1, []api.Edge{keyed(0, 1)}, input(), sum()), 1)
	for i, u := range upTo(4097) {
		does(t, w, send(0, 0, u, api.Record{}))
		if i%1000 == 999 || i >= 4095 {
			does(t, w, step(0))
		}
		if i == 4095 {
			v := w.Copy()
			shuts(t, v)
			enough(t, "tokens alone", v, 4096, api.OK)
		}
	}
	shuts(t, w)
	enough(t, "tokens alone", w, 0, api.ErrHeavy)
}

func TestWhichErrorOfEnoughComesFirst(t *testing.T) { // P28.5, P4
	// A free node; an input that is open; and too many stamps.
	nodes := []api.Node{input(), mapper(), mapper(), trap(), free(false, 0, 0)}
	edges := []api.Edge{edge(0, 1), edge(1, 2), edge(2, 3)}
	for _, c := range []struct {
		nodes      int
		open, many bool
		want       api.Errno
	}{
		{5, true, true, api.ErrNode}, {5, true, false, api.ErrNode}, {5, false, true, api.ErrNode}, {5, false, false, api.ErrNode},
		{4, true, true, api.ErrEpoch}, {4, true, false, api.ErrEpoch}, {4, false, true, api.ErrHeavy}, {4, false, false, api.OK},
	} {
		w := begin(t, graphOf(1, edges, nodes[:c.nodes]...), 2)
		times := upTo(1)
		if c.many {
			times = upTo(1500)
		}
		for _, u := range times {
			does(t, w, send(1, 0, u, api.Record{}))
		}
		does(t, w, world.Act{Kind: world.Close})
		if !c.open {
			does(t, w, world.Act{Kind: world.Close, W: 1})
		}
		want := 0
		if c.want == api.OK {
			want = 5
		}
		enough(t, "first", w, want, c.want)
	}
}

func TestEachInputOfEachWorkerIsToBeClosed(t *testing.T) { // P28.5
	g := graphOf(1, []api.Edge{edge(0, 1), {From: 2, To: 1, In: 1}}, input(), join(2), input())
	for _, workers := range []int{1, 2, api.MaxWorkers} {
		for self := range workers {
			for _, node := range []int{0, 2} {
				w := begin(t, g, workers)
				for other := range workers {
					for _, n := range []int{0, 2} {
						if other != self || n != node {
							does(t, w, world.Act{Kind: world.Close, W: other, N: n})
						}
					}
				}
				enough(t, "all but one are closed", w, 0, api.ErrEpoch)
				does(t, w, world.Act{Kind: world.Close, W: self, N: node})
				enough(t, "all are closed", w, 0, api.OK)
			}
		}
	}
}
