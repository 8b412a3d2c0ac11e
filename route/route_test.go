package route

import (
	"math"
	"slices"
	"testing"

	"sluice/api"
	"sluice/graph"
)

const last = math.MaxUint64

func input() api.Node { return api.Node{Kind: api.KInput, Outs: 1} }
func sum() api.Node   { return api.Node{Kind: api.KSum, Ins: 1, Outs: 1} }
func probe() api.Node { return api.Node{Kind: api.KProbe, Ins: 1} }

func join(ins int) api.Node { return api.Node{Kind: api.KJoin, Ins: ins, Outs: 1} }

func free(ins, outs int) api.Node { return api.Node{Kind: api.KFree, Ins: ins, Outs: outs} }

// example is the graph of the chapter's example: an input 0, a sum 1 2, a probe 3.
func example() api.Graph {
	return api.Graph{Arity: 1, Nodes: []api.Node{input(), sum(), probe()}, Edges: []api.Edge{{From: 0, To: 1, Keyed: true}, {From: 0, To: 2}}}
}

// tangle is an input 0, a free node 1 2 with the out-places 3 4 5, a join 6 7 8 9, a sum 10 11, a probe 12, and an input 13 without an edge, as the out-place 3 has none.
func tangle() api.Graph {
	return api.Graph{Arity: 2, Nodes: []api.Node{input(), free(2, 3), join(3), sum(), probe(), input()}, Edges: []api.Edge{
		{From: 1, Out: 1, To: 2, In: 2},
		{From: 0, To: 3, Keyed: true},
		{From: 1, Out: 1, To: 1, In: 0, Keyed: true},
		{From: 0, To: 4},
		{From: 0, To: 2, In: 0, Keyed: true},
		{From: 1, Out: 2, To: 4, Keyed: true},
		{From: 1, Out: 1, To: 2, In: 0},
		{From: 3, To: 4},
		{From: 0, To: 1, In: 1},
		{From: 2, To: 3, Keyed: true},
	}}
}

// leg is where an edge of tangle leads.
type leg struct {
	in    int
	keyed bool
}

// legs are those of tangle's out-places, told apart from the graph.
func legs() map[int][]leg {
	return map[int][]leg{
		0:  {{10, true}, {12, false}, {6, true}, {2, false}},
		3:  nil,
		4:  {{8, false}, {1, true}, {6, false}},
		5:  {{12, true}},
		9:  {{10, true}},
		11: {{12, false}},
		13: nil,
	}
}

// fullest has as many edges as there can be: 16 from each of the first three out-ports of one node, in turn; none from its last.
func fullest() api.Graph {
	g := api.Graph{Arity: 3, Nodes: []api.Node{free(4, 4)}}
	for range 4 {
		g.Nodes = append(g.Nodes, free(4, 0))
	}
	for edge := range api.MaxEdges {
		g.Edges = append(g.Edges, api.Edge{From: 0, Out: edge % 3, To: 1 + edge/3%4, In: edge / 12, Keyed: edge%5 < 2})
	}
	return g
}

func made(t *testing.T, g api.Graph) *graph.Graph {
	t.Helper()
	x, e, at := graph.New(g)
	if e != api.OK {
		t.Fatalf("the graph may not be: %d at %d: %v", e, at, g)
	}
	return x
}

// out is one with the message at a place.
func out(worker, place int, t api.Time, r api.Record) Out {
	return Out{Worker: worker, M: api.Message{At: place, T: t, R: r}}
}

func sends(t *testing.T, l []Out, want ...Out) {
	t.Helper()
	if !slices.Equal(l, want) {
		t.Errorf("Send = %v, want %v", l, want)
	}
}

func TestTheFirstExample(t *testing.T) { // P18.1, P18.2
	if h := Hash(0); h != 0 {
		t.Errorf("Hash(0) = %X", h)
	}
	for _, key := range []uint64{0, 1, 2, 5, 7, 1 << 31, 1 << 63, last} {
		if w := To(key, 1); w != 0 {
			t.Errorf("To(%d, 1) = %d", key, w)
		}
	}
	for _, c := range []struct {
		key           uint64
		workers, want int
	}{{0, 8, 0}, {5, 0, -1}, {5, 9, -1}} {
		if w := To(c.key, c.workers); w != c.want {
			t.Errorf("To(%d, %d) = %d, want %d", c.key, c.workers, w, c.want)
		}
	}
}

func TestTheSecondExample(t *testing.T) { // P18.3
	g := made(t, example())
	r := api.Record{Key: 7, Val: 5}
	for _, at := range []api.Time{{}, {A: 4}, {A: last}} {
		sends(t, Send(g, 0, at, r, 0, 2), out(To(7, 2), 1, at, r), out(0, 3, at, r))
		sends(t, Send(g, 1, at, r, 0, 2))
	}
}

func TestHashesThatAreKnown(t *testing.T) { // P18.1
	// The mix of a well known generator: its first four numbers from 0 on are the hashes of 1 to 4 times its step.
	const step = 0x9E3779B97F4A7C15
	for _, c := range []struct{ key, want uint64 }{
		{0, 0},
		{1, 0x5692161D100B05E5},
		{step & last, 0xE220A8397B1DCDAF},
		{2 * step & last, 0x6E789E6AA1B965F4},
		{3 * step & last, 0x06C45D188009454F},
		{4 * step & last, 0xF88BB8A8724C81EC},
	} {
		if h := Hash(c.key); h != c.want {
			t.Errorf("Hash(%X) = %X, want %X", c.key, h, c.want)
		}
	}
}

func TestHowManyWorkersForAKey(t *testing.T) { // P18.2
	for _, key := range []uint64{0, 1, 5, 7, 1 << 27, 1 << 30, 1 << 31, 1 << 63, last - 1, last} {
		for workers := 1; workers <= api.MaxWorkers; workers++ {
			if w := To(key, workers); w < 0 || w >= workers || uint64(w) != Hash(key)%uint64(workers) {
				t.Errorf("To(%d, %d) = %d", key, workers, w)
			}
		}
		for _, workers := range []int{0, -1, -2, -8, 9, 10, 16, 1 << 31, 1 << 32, 1<<32 + 1, math.MaxInt, math.MaxInt - 1, math.MinInt, math.MinInt + 1, math.MinInt + 8} {
			if w := To(key, workers); w != -1 {
				t.Errorf("To(%d, %d) = %d", key, workers, w)
			}
		}
	}
}

func TestEveryWorkerHasKeys(t *testing.T) { // P18.2
	for workers := 1; workers <= api.MaxWorkers; workers++ {
		had := make([]int, workers)
		for key := range uint64(800) {
			had[To(key, workers)]++
		}
		if least := slices.Min(had); least < 50 {
			t.Errorf("of 800 keys the workers have %v", had)
		}
	}
}

func TestEachOutPlace(t *testing.T) { // P18.3
	g := made(t, tangle())
	at := api.Time{A: 3, B: 8}
	for place, along := range legs() {
		for _, key := range []uint64{0, 1, 2, 3, 4, 5, 1 << 63, last} {
			r := api.Record{Key: key, Val: last - key}
			for workers := 1; workers <= api.MaxWorkers; workers++ {
				for own := range workers {
					var want []Out
					for _, d := range along {
						to := own
						if d.keyed {
							to = int(Hash(key) % uint64(workers))
						}
						want = append(want, out(to, d.in, at, r))
					}
					sends(t, Send(g, place, at, r, own, workers), want...)
				}
			}
		}
	}
}

func TestPlacesThatAreNoOutPlaces(t *testing.T) { // P18.3
	for i, raw := range []api.Graph{tangle(), example(), {Arity: 1}} {
		g := made(t, raw)
		l := []int{-1, -2, -14, g.Places(), g.Places() + 1, 192, 1 << 31, 1 << 32, math.MinInt, math.MinInt + 1, math.MaxInt, math.MaxInt - 1}
		for place := range g.Places() {
			if _, _, in := g.Of(place); in {
				l = append(l, place)
			}
		}
		for _, place := range l {
			for workers := 1; workers <= api.MaxWorkers; workers++ {
				if l := Send(g, place, api.Time{A: 1}, api.Record{Key: 1, Val: 1}, workers-1, workers); len(l) != 0 {
					t.Errorf("graph %d, place %d, %d workers: %v", i, place, workers, l)
				}
			}
		}
	}
}

func TestWhoSends(t *testing.T) { // P18.3
	g := made(t, tangle())
	far := []int{math.MinInt, math.MinInt + 1, -9, -8, -2, -1, 0, 1, 2, 3, 7, 8, 9, 10, 1 << 31, 1 << 32, math.MaxInt - 1, math.MaxInt}
	for place, along := range legs() {
		for _, workers := range far {
			for _, own := range append(slices.Clone(far), workers-1, workers) {
				many := len(Send(g, place, api.Time{}, api.Record{Key: 9}, own, workers))
				want := len(along)
				if workers < 1 || workers > 8 || own < 0 || own > workers-1 {
					want = 0
				}
				if many != want {
					t.Errorf("place %d, own %d of %d workers: %d messages", place, own, workers, many)
				}
			}
		}
	}
}

func TestTheTimeIsNotLookedAt(t *testing.T) { // P18.3
	// By the arities 1 and 2 the others don't count, and are handed on nonetheless.
	r := api.Record{Key: 7, Val: 1}
	for _, at := range []api.Time{{}, {A: 1}, {B: 1}, {C: 1}, {A: 5, B: 6, C: 7}, {A: last}, {B: last}, {C: last}, {A: last, B: last, C: last}} {
		sends(t, Send(made(t, example()), 0, at, r, 1, 3), out(To(7, 3), 1, at, r), out(1, 3, at, r))
		sends(t, Send(made(t, tangle()), 11, at, r, 6, 8), out(6, 12, at, r))
	}
}

func TestAnyRecord(t *testing.T) { // P18.3
	g := made(t, example())
	ends := []uint64{0, 1, 2, 1<<27 - 1, 1 << 27, 1<<30 - 1, 1 << 30, 1<<31 - 1, 1 << 31, 1 << 32, 1<<63 - 1, 1 << 63, last - 1, last}
	for _, key := range ends {
		for _, val := range ends {
			r := api.Record{Key: key, Val: val}
			at := api.Time{A: val}
			for workers := 1; workers <= api.MaxWorkers; workers++ {
				sends(t, Send(g, 0, at, r, workers-1, workers), out(int(Hash(key)%uint64(workers)), 1, at, r), out(workers-1, 3, at, r))
			}
		}
	}
}

func TestAsManyEdgesAsThereCanBe(t *testing.T) { // P18.3
	raw := fullest()
	g := made(t, raw)
	r := api.Record{Key: 12, Val: 3}
	at := api.Time{B: 2}
	for port := range 4 {
		var want []Out
		for edge := port; port < 3 && edge < api.MaxEdges; edge += 3 {
			to := 2
			if edge%5 < 2 {
				to = To(12, 7)
			}
			want = append(want, out(to, 8+4*(edge/3%4)+edge/12, at, r))
		}
		if port < 3 && len(want) != 16 {
			t.Fatalf("%d edges are there", len(want))
		}
		sends(t, Send(g, 4+port, at, r, 2, 7), want...)
	}
	if To(12, 7) == 2 {
		t.Error("the key tells nothing")
	}
}

func TestEdgesThatDifferInBeingKeyed(t *testing.T) { // P18.3, P18.4
	// The same edges in each order, and each keyed or not.
	for keyed := range 8 {
		for _, order := range [][3]int{{0, 1, 2}, {0, 2, 1}, {1, 0, 2}, {1, 2, 0}, {2, 0, 1}, {2, 1, 0}} {
			raw := api.Graph{Arity: 1, Nodes: []api.Node{input(), join(2), probe()}}
			ends := [3]api.Edge{{From: 0, To: 1, Keyed: keyed&1 > 0}, {From: 0, To: 1, In: 1, Keyed: keyed&2 > 0}, {From: 0, To: 2, Keyed: keyed&4 > 0}}
			ins := [3]int{1, 2, 4}
			r := api.Record{Key: 1}
			var want []Out
			for _, i := range order {
				raw.Edges = append(raw.Edges, ends[i])
				to := 0
				if ends[i].Keyed {
					to = 1 // the hash of 1 is odd
				}
				want = append(want, out(to, ins[i], api.Time{}, r))
			}
			sends(t, Send(made(t, raw), 0, api.Time{}, r, 0, 2), want...)
		}
	}
}
