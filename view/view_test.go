package view

import (
	"errors"
	"math"
	"slices"
	"testing"

	"sluice/api"
	"sluice/batch"
	"sluice/graph"
)

const (
	most = api.MaxCount
	last = math.MaxUint64 // the greatest number of a time
)

func input() api.Node { return api.Node{Kind: api.KInput, Outs: 1} }
func probe() api.Node { return api.Node{Kind: api.KProbe, Ins: 1} }

func join(ins int) api.Node { return api.Node{Kind: api.KJoin, Ins: ins, Outs: 1} }

func loop(by api.Path) api.Node {
	return api.Node{Kind: api.KLoop, Ins: 1, Outs: 1, By: by, Bound: 9}
}

func free(start bool, ins, outs int, conns ...api.Conn) api.Node {
	return api.Node{Kind: api.KFree, Ins: ins, Outs: outs, Conns: conns, Start: start}
}

func by(numbers ...uint64) api.Path {
	numbers = append(slices.Clone(numbers), 0, 0, 0)
	return api.Path{A: numbers[0], B: numbers[1], C: numbers[2]}
}

func at(numbers ...uint64) api.Time { return api.Time(by(numbers...)) }

// ch is a change by n of a time at a place.
func ch(place int, n int64, numbers ...uint64) api.Change {
	return api.Change{S: api.Stamp{At: place, T: at(numbers...)}, N: n}
}

// line is the graph of the chapter's examples: input 0, probe 1.
func line() api.Graph {
	return api.Graph{Arity: 1, Nodes: []api.Node{input(), probe()}, Edges: []api.Edge{{From: 0, To: 1, Keyed: true}}}
}

// round is an input 0, a loop 1 2, a join 3 4 5 and a probe 6; the loop leads from the join to its second in-place.
func round() api.Graph {
	return api.Graph{Arity: 1, Nodes: []api.Node{input(), loop(by(1)), join(2), probe()}, Edges: []api.Edge{{From: 0, To: 2}, {From: 2, To: 1}, {From: 1, To: 2, In: 1}, {From: 2, To: 3}}}
}

// forked is a free node by which a time goes on in two ways: in-place 0, out-place 1, probe 2. It begins with nothing.
func forked() api.Graph {
	return api.Graph{Arity: 2, Nodes: []api.Node{free(false, 1, 1, api.Conn{By: by(1)}, api.Conn{By: by(0, 1)}), probe()}, Edges: []api.Edge{{From: 0, To: 1}}}
}

// doubling is a row of free nodes, the one number i with two connections that add 2^i, at one number and at another: so 2^n least paths from the first place to the last.
func doubling(many int) api.Graph {
	g := api.Graph{Arity: 2}
	for i := range many {
		g.Nodes = append(g.Nodes, free(false, 1, 1, api.Conn{By: by(1 << i)}, api.Conn{By: by(0, 1<<i)}))
		if i > 0 {
			g.Edges = append(g.Edges, api.Edge{From: i - 1, To: i})
		}
	}
	return g
}

// greatest has as many places as there can be: 8 n to 8 n + 3 are the in-places of the node n, the next four its out-places.
func greatest() api.Graph {
	return api.Graph{Arity: 3, Nodes: slices.Repeat([]api.Node{free(true, api.MaxPorts, api.MaxPorts)}, api.MaxNodes)}
}

func made(t *testing.T, g api.Graph) *graph.Graph {
	t.Helper()
	x, e, at := graph.New(g)
	if e != api.OK {
		t.Fatalf("the graph may not be: %d at %d: %v", e, at, g)
	}
	return x
}

func begin(t *testing.T, g api.Graph, workers int) *View {
	t.Helper()
	v, e := New(made(t, g), workers)
	if v == nil || e != api.OK {
		t.Fatalf("New = %v, %d: %v", v, e, g)
	}
	return v
}

// put is the bytes of a list in form.
func put(t *testing.T, l ...api.Change) []byte {
	t.Helper()
	b, e := batch.Put(l)
	if e != api.OK {
		t.Fatalf("Put(%v) = %d", l, e)
	}
	return b
}

func owns(t *testing.T, v *View, l ...api.Change) {
	t.Helper()
	if e := v.Own(l); e != api.OK {
		t.Errorf("Own(%v) = %d", l, e)
	}
}

func hears(t *testing.T, v *View, l ...api.Change) {
	t.Helper()
	if err := v.Hear(put(t, l...)); err != nil {
		t.Errorf("Hear of %v: %v", l, err)
	}
}

// carries holds that a number is found in an error, and no other one.
func carries(t *testing.T, err error, want api.Errno) {
	t.Helper()
	var e api.Errno
	if err == nil || !errors.As(err, &e) || e != want {
		t.Errorf("%v: %d is found in it, want %d", err, e, want)
	}
	for e := api.OK - 1; e <= api.ErrLine+1; e++ {
		if errors.Is(err, e) != (e == want) {
			t.Errorf("%v: looked for %d, want %d", err, e, want)
		}
	}
}

// stays holds that all is as it was behind a call.
func stays(t *testing.T, v *View, call func()) {
	t.Helper()
	was := answersOf(v)
	call()
	if !answersOf(v).same(was) {
		t.Error("what was refused has changed something")
	}
}

// refuses holds that a list is refused as one's own.
func refuses(t *testing.T, v *View, want api.Errno, l ...api.Change) {
	t.Helper()
	stays(t, v, func() {
		t.Helper()
		if e := v.Own(l); e != want {
			t.Errorf("Own(%v) = %d, want %d", l, e, want)
		}
	})
}

// hearsNot holds that changes whose bytes may be are refused by the counts.
func hearsNot(t *testing.T, v *View, want api.Errno, l ...api.Change) {
	t.Helper()
	stays(t, v, func() {
		t.Helper()
		carries(t, v.Hear(put(t, l...)), want)
	})
	refuses(t, v, want, l...)
}

// faulty holds that bytes are refused, and told by the fault that batch.Get answers.
func faulty(t *testing.T, v *View, want batch.Fault, b ...byte) {
	t.Helper()
	stays(t, v, func() {
		t.Helper()
		_, got := batch.Get(b)
		err := v.Hear(b)
		f, ok := err.(*batch.Fault)
		if !ok || f == nil || *f != want || got == nil || err.Error() != got.Error() {
			t.Errorf("Hear(% x): %v, batch.Get: %v, want %v", b, err, got, want)
			return
		}
		carries(t, err, want.Err)
	})
}

func counts(t *testing.T, v *View, want ...api.Change) {
	t.Helper()
	if l := v.Counts(); !slices.Equal(l, want) {
		t.Errorf("Counts = %v, want %v", l, want)
	}
}

func fronts(t *testing.T, v *View, place int, want ...api.Time) {
	t.Helper()
	if l := v.Front(place); !slices.Equal(l, want) {
		t.Errorf("Front(%d) = %v, want %v", place, l, want)
	}
}

// all holds every front against times by A alone; nothing at a place: -1.
func all(t *testing.T, v *View, want ...int) {
	t.Helper()
	for place, a := range want {
		if a < 0 {
			fronts(t, v, place)
		} else {
			fronts(t, v, place, at(uint64(a)))
		}
	}
}

func opens(t *testing.T, v *View, place int, want bool, l ...api.Time) {
	t.Helper()
	for _, u := range l {
		if v.Open(place, u) != want {
			t.Errorf("Open(%d, %v) isn't %v", place, u, want)
		}
	}
}

func TestTheExample(t *testing.T) { // P17.1 to P17.4
	v := begin(t, line(), 2)
	counts(t, v, ch(0, 2, 0))
	fronts(t, v, 1, at(0))
	owns(t, v, ch(0, -1, 0), ch(0, 1, 3))
	fronts(t, v, 1, at(0))
	hears(t, v, ch(0, -1, 0), ch(0, 1, 2))
	fronts(t, v, 0, at(2))
	fronts(t, v, 1, at(2))
	hears(t, v, ch(1, -1, 1))
	fronts(t, v, 1, at(2))
	counts(t, v, ch(0, 1, 2), ch(0, 1, 3), ch(1, -1, 1))
	hears(t, v, ch(1, 1, 1))
	counts(t, v, ch(0, 1, 2), ch(0, 1, 3))
	hearsNot(t, v, api.ErrPlace, ch(2, 1, 0))
	refuses(t, v, api.ErrRange, ch(0, 2147483648, 0))
	opens(t, v, 1, true, at(2))
	opens(t, v, 1, false, at(1))
	opens(t, v, 5, false, at(9))
}

func TestAUseThatIsHeardAheadOfItsMaking(t *testing.T) { // DOC.md, the fourth example of the whole, in the view of worker 0
	v := begin(t, line(), 3)
	counts(t, v, ch(0, 3, 0))
	owns(t, v, ch(1, 1, 0))               // it sends n
	owns(t, v, ch(0, -1, 0), ch(0, 1, 1)) // its input goes on
	hears(t, v, ch(0, -1, 0), ch(0, 1, 1))
	hears(t, v, ch(1, -1, 0)) // worker 1 has used m
	counts(t, v, ch(0, 1, 0), ch(0, 2, 1))
	fronts(t, v, 1, at(0))
	hears(t, v, ch(1, 1, 0)) // worker 2 has sent m
	fronts(t, v, 1, at(0))
	hears(t, v, ch(0, -1, 0)) // and closed its input
	counts(t, v, ch(0, 2, 1), ch(1, 1, 0))
	all(t, v, 1, 0)
	hears(t, v, ch(1, -1, 0)) // worker 1 has used n
	all(t, v, 1, 1)
}

func TestAnInputOfAnotherWorkerHoldsTheFront(t *testing.T) { // DOC.md, the eighth example of the whole
	v := begin(t, round(), 2)
	all(t, v, 0, 0, 1, 0, 1, 0, 0)
	owns(t, v, ch(0, -1, 0))
	counts(t, v, ch(0, 1, 0))
	all(t, v, 0, 0, 1, 0, 1, 0, 0)
	hears(t, v, ch(0, -1, 0), ch(0, 1, 3))
	all(t, v, 3, 3, 4, 3, 4, 3, 3)
	hears(t, v, ch(0, -1, 3))
	all(t, v, -1, -1, -1, -1, -1, -1, -1)
	counts(t, v)
}

// unmade are graphs of which reach makes nothing, and why.
func unmade() map[api.Errno][]api.Graph {
	ring := api.Graph{Arity: 1, Nodes: slices.Repeat([]api.Node{{Kind: api.KMap, Ins: 1, Outs: 1}}, 2), Edges: []api.Edge{{From: 0, To: 1}, {From: 1, To: 0}}}
	still := round()
	still.Nodes[1].By = by()
	both := doubling(7)
	both.Nodes = append(both.Nodes, join(1))
	both.Edges = append(both.Edges, api.Edge{From: 7, To: 7})
	return map[api.Errno][]api.Graph{api.ErrCycle: {ring, still, both}, api.ErrWide: {doubling(7), doubling(12)}}
}

func TestNotMade(t *testing.T) { // P17.1, P4
	wrong := []int{0, 9, -1, 10, math.MaxInt, math.MinInt, 1 << 32, 1<<32 + 1}
	isNone := func(g *graph.Graph, workers int, want api.Errno) {
		t.Helper()
		if v, e := New(g, workers); v != nil || e != want {
			t.Errorf("New of %d workers = %v, %d, want nil, %d", workers, v, e, want)
		}
	}
	for _, workers := range append(wrong, 1, 8) {
		isNone(nil, workers, api.ErrArg)
	}
	for e, l := range unmade() {
		for _, raw := range l {
			g := made(t, raw)
			for workers := 1; workers <= api.MaxWorkers; workers++ {
				isNone(g, workers, e)
			}
			for _, workers := range wrong {
				isNone(g, workers, api.ErrWorker)
			}
		}
	}
	for _, raw := range []api.Graph{line(), forked(), doubling(6), {Arity: 1}} {
		for _, workers := range wrong {
			isNone(made(t, raw), workers, api.ErrWorker)
		}
		begin(t, raw, 1)
		begin(t, raw, 8)
	}
}

func TestFirstTokens(t *testing.T) { // P17.1
	// Kinds of all sorts, so that the places of what begins with something are no others'.
	many := api.Graph{Arity: 3, Nodes: []api.Node{
		free(true, 1, 2), // 0 in, 1 2 out
		probe(),          // 3
		input(),          // 4
		free(false, 2, 3),
		free(true, 0, 4), // 10 to 13
		free(true, 4, 0),
		free(true, 0, 0),
		{Kind: api.KSum, Ins: 1, Outs: 1}, {Kind: api.KMap, Ins: 1, Outs: 1}, {Kind: api.KFilter, Ins: 1, Outs: 1},
		join(4),
		loop(by(0, 0, 1)),
		input(), // 31
		input(), // 32
		free(false, 0, 1),
	}}
	cases := []struct {
		g      api.Graph
		places []int
	}{
		{api.Graph{Arity: 2}, nil},
		{line(), []int{0}},
		{round(), []int{0}},
		{forked(), nil},
		{many, []int{1, 2, 4, 10, 11, 12, 13, 31, 32}},
		{api.Graph{Arity: 1, Nodes: []api.Node{free(true, 0, 1)}}, []int{0}},
		{api.Graph{Arity: 1, Nodes: []api.Node{free(false, 0, 1)}}, nil},
		{api.Graph{Arity: 2, Nodes: slices.Repeat([]api.Node{input()}, 3)}, []int{0, 1, 2}},
	}
	for _, c := range cases {
		for workers := 1; workers <= api.MaxWorkers; workers++ {
			v := begin(t, c.g, workers)
			var want []api.Change
			for _, place := range c.places {
				want = append(want, ch(place, int64(workers)))
			}
			counts(t, v, want...)
			for _, place := range c.places {
				fronts(t, v, place, at())
				opens(t, v, place, true, at(), at(last, last, last))
			}
		}
	}
	// Where nothing begins and nothing leads to, nothing may come.
	v := begin(t, many, 8)
	for _, place := range []int{0, 3, 5, 7, 9, 14, 19, 30, 33, 34} {
		fronts(t, v, place)
		opens(t, v, place, false, at(), at(last, last, last))
	}
}

func TestFirstTokensGoOnAlongTheWays(t *testing.T) { // P17.1, P17.4
	v := begin(t, api.Graph{Arity: 2, Nodes: []api.Node{free(true, 1, 2, api.Conn{By: by(1), Out: 1}), loop(by(0, 3)), probe(), probe()}, Edges: []api.Edge{{From: 0, To: 1}, {From: 0, Out: 1, To: 2}, {From: 1, To: 3}, {From: 1, To: 0}}}, 4)
	counts(t, v, ch(1, 4), ch(2, 4))
	for place, want := range []api.Time{at(0, 3), at(), at(), at(), at(0, 3), at(), at(0, 3)} {
		fronts(t, v, place, want)
	}
	owns(t, v, ch(2, -4))
	fronts(t, v, 2, at(1, 3))
	fronts(t, v, 5, at(1, 3))
}

func TestAsManyPlacesAsMayBe(t *testing.T) { // P17.1 to P17.4
	v := begin(t, greatest(), 8)
	var want []api.Change
	for node := range api.MaxNodes {
		for port := range api.MaxPorts {
			want = append(want, ch(8*node+4+port, 8))
		}
	}
	counts(t, v, want...)
	hears(t, v, ch(0, 1, 0, 0, 5), ch(191, -8), ch(191, 1, last, last, last))
	fronts(t, v, 0, at(0, 0, 5))
	fronts(t, v, 191, at(last, last, last))
	fronts(t, v, 190, at())
	fronts(t, v, 192)
	opens(t, v, 192, false, at(last, last, last))
	refuses(t, v, api.ErrPlace, ch(192, 1))
	faulty(t, v, batch.Fault{At: 1, Err: api.ErrRange}, 1, 0xC0, 1, 0, 0, 0, 2)
}

func TestWhatIsRefusedAsOnesOwn(t *testing.T) { // P17.2, P4
	misfit := ch(0, 1, 0, 1)
	cases := []struct {
		e api.Errno
		l []api.Change
	}{
		{api.ErrPlace, []api.Change{ch(7, 1, 0)}},
		{api.ErrPlace, []api.Change{ch(-1, 1, 0)}},
		{api.ErrPlace, []api.Change{ch(192, 1, 0)}},
		{api.ErrPlace, []api.Change{ch(math.MaxInt, 0, 0)}},
		{api.ErrPlace, []api.Change{ch(math.MinInt, 0, 0)}},
		{api.ErrPlace, []api.Change{ch(0, -1, 0), ch(0, 1, 5), ch(7, 1, 0)}},
		{api.ErrArity, []api.Change{misfit}},
		{api.ErrArity, []api.Change{ch(0, 0, 0, 0, 1)}},
		{api.ErrArity, []api.Change{ch(0, -2, 0), ch(6, 1, 5), misfit}},
		{api.ErrRange, []api.Change{ch(0, most+1, 4)}},
		{api.ErrRange, []api.Change{ch(0, -most-1, 4)}},
		{api.ErrRange, []api.Change{ch(0, math.MaxInt64, 4)}},
		{api.ErrRange, []api.Change{ch(0, math.MinInt64, 4)}},
		// There are two at the beginning.
		{api.ErrRange, []api.Change{ch(0, most-1, 0)}},
		{api.ErrRange, []api.Change{ch(0, 1, 4), ch(0, most, 0)}},
		// Of one change the place comes first, then the time.
		{api.ErrPlace, []api.Change{ch(7, most+1, 0, 1)}},
		{api.ErrArity, []api.Change{ch(0, most+1, 0, 1)}},
		// Of several the first one that is wrong, but the range last of all.
		{api.ErrArity, []api.Change{misfit, ch(7, 1, 0)}},
		{api.ErrPlace, []api.Change{ch(7, 1, 0), misfit}},
		{api.ErrPlace, []api.Change{ch(0, most+1, 5), ch(7, 1, 0)}},
		{api.ErrArity, []api.Change{ch(0, most, 0), misfit}},
		// One stamp several times.
		{api.ErrRange, []api.Change{ch(0, most+1, 5), ch(0, -1, 5)}},
		{api.ErrRange, []api.Change{ch(0, -1, 5), ch(0, most+1, 5)}},
		{api.ErrRange, []api.Change{ch(6, most, 5), ch(0, -1, 0), ch(6, 1, 5)}},
		{api.ErrRange, []api.Change{ch(0, -most, 0), ch(0, -2, 0), ch(0, -1, 0)}},
		{api.ErrRange, []api.Change{ch(0, math.MaxInt64, 5), ch(0, math.MinInt64, 5), ch(0, 1, 5)}},
	}
	v := begin(t, round(), 2)
	for _, c := range cases {
		refuses(t, v, c.e, c.l...)
	}
	owns(t, v, ch(1, 1, 7), ch(3, -2, 1))
	for _, c := range cases {
		refuses(t, v, c.e, c.l...)
	}
	counts(t, v, ch(0, 2, 0), ch(1, 1, 7), ch(3, -2, 1))
	all(t, v, 0, 0, 1, 0, 1, 0, 0)
}

func TestOnesOwn(t *testing.T) { // P17.2, P17.4
	v := begin(t, round(), 3)
	for _, l := range [][]api.Change{nil, {}, make([]api.Change, 0, 4)} {
		owns(t, v, l...)
		counts(t, v, ch(0, 3, 0))
	}
	// The order of a list plays no part, and one stamp may stand in it several times.
	owns(t, v, ch(6, 1, 9), ch(0, -1, 0), ch(0, 1, 2), ch(0, -1, 0), ch(0, 1, 2), ch(0, -1, 0), ch(5, 0, 0))
	counts(t, v, ch(0, 2, 2), ch(6, 1, 9))
	all(t, v, 2, 2, 3, 2, 3, 2, 2)
	// Beyond the range in the middle, within it behind the whole.
	owns(t, v, ch(0, most, 2), ch(0, most, 2), ch(0, -most, 2), ch(0, -most, 2), ch(0, -1, 2))
	counts(t, v, ch(0, 1, 2), ch(6, 1, 9))
	owns(t, v, ch(0, 1, 1), ch(0, -1, 1))
	counts(t, v, ch(0, 1, 2), ch(6, 1, 9))
	all(t, v, 2, 2, 3, 2, 3, 2, 2)
	owns(t, v, ch(0, -1, 2))
	all(t, v, -1, -1, -1, -1, -1, -1, 9)
	owns(t, v, ch(6, -1, 9))
	counts(t, v)
	all(t, v, -1, -1, -1, -1, -1, -1, -1)
}

func TestTheEndsOfTheRange(t *testing.T) { // P17.2, P17.3
	v := begin(t, line(), 8)
	hearsNot(t, v, api.ErrRange, ch(0, most, 0))
	hearsNot(t, v, api.ErrRange, ch(0, most-7, 0))
	hears(t, v, ch(0, most-8, 0), ch(1, -most, 0))
	counts(t, v, ch(0, most, 0), ch(1, -most, 0))
	all(t, v, 0, 0)
	hearsNot(t, v, api.ErrRange, ch(0, 1, 0))
	hearsNot(t, v, api.ErrRange, ch(1, -1, 0))
	hearsNot(t, v, api.ErrRange, ch(0, -1, 0), ch(0, 1, 9), ch(1, -1, 0))
	refuses(t, v, api.ErrRange, ch(0, 1, 0), ch(1, 1, 0))
	owns(t, v, ch(0, -most, 0), ch(1, most, 0), ch(0, -most, 0), ch(1, most, 0))
	counts(t, v, ch(0, -most, 0), ch(1, most, 0))
	all(t, v, -1, 0)
	hearsNot(t, v, api.ErrRange, ch(0, -1, 0))
	hears(t, v, ch(0, most, 0), ch(1, -most, 0))
	counts(t, v)
	all(t, v, -1, -1)
}

func TestBytesThatAreNoBatch(t *testing.T) { // P17.3, P4
	for _, v := range []*View{begin(t, line(), 2), begin(t, round(), 8), begin(t, api.Graph{Arity: 1}, 1)} {
		for _, c := range []struct {
			want batch.Fault
			b    []byte
		}{
			{batch.Fault{At: 0, Err: api.ErrForm}, []byte{0}},
			{batch.Fault{At: 0, Err: api.ErrForm}, []byte{0, 1, 0, 0, 0, 2}},
			{batch.Fault{At: 0, Err: api.ErrForm}, []byte{0x81, 0}},
			{batch.Fault{At: 0, Err: api.ErrShort}, []byte{0x80}},
			{batch.Fault{At: 1, Err: api.ErrShort}, []byte{1}},
			{batch.Fault{At: 1, Err: api.ErrForm}, []byte{1, 0x80, 0, 0, 0, 0, 2}},
			{batch.Fault{At: 1, Err: api.ErrRange}, []byte{1, 0xC0, 1, 0, 0, 0, 2}},
			{batch.Fault{At: 5, Err: api.ErrShort}, []byte{1, 0, 3, 0, 0}},
			{batch.Fault{At: 5, Err: api.ErrForm}, []byte{1, 0, 3, 0, 0, 0}},
			{batch.Fault{At: 5, Err: api.ErrRange}, []byte{1, 0, 3, 0, 0, 0x80, 0x80, 0x80, 0x80, 0x10}},
			{batch.Fault{At: 6, Err: api.ErrShort}, []byte{2, 0, 3, 0, 0, 2}},
			{batch.Fault{At: 6, Err: api.ErrForm}, []byte{2, 0, 3, 0, 0, 2, 0, 2, 0, 0, 2}},
			{batch.Fault{At: 6, Err: api.ErrForm}, []byte{2, 0, 3, 0, 0, 2, 0, 3, 0, 0, 2}},
			{batch.Fault{At: 6, Err: api.ErrRest}, []byte{1, 0, 3, 0, 0, 2, 0}},
			// What is wrong with the bytes comes ahead of what the counts would refuse.
			{batch.Fault{At: 7, Err: api.ErrRest}, []byte{1, 0xBF, 1, 3, 0, 0, 2, 0}},
			{batch.Fault{At: 6, Err: api.ErrShort}, []byte{2, 9, 3, 0, 0, 2}},
			{batch.Fault{At: 6, Err: api.ErrRest}, []byte{1, 0, 0, 0, 1, 2, 0}},
			{batch.Fault{At: 10, Err: api.ErrRest}, []byte{1, 0, 0, 0, 0, 0xFE, 0xFF, 0xFF, 0xFF, 0x0F, 0}},
		} {
			faulty(t, v, c.want, c.b...)
		}
	}
}

func TestWhatIsRefusedAsHeard(t *testing.T) { // P17.3, P4
	v := begin(t, round(), 2)
	for _, c := range []struct {
		e api.Errno
		l []api.Change
	}{
		{api.ErrPlace, []api.Change{ch(7, 1, 0)}},
		{api.ErrPlace, []api.Change{ch(191, -1, 5)}},
		{api.ErrPlace, []api.Change{ch(0, -1, 0), ch(0, 1, 5), ch(7, 1, 0)}},
		{api.ErrArity, []api.Change{ch(0, 1, 0, 1)}},
		{api.ErrArity, []api.Change{ch(0, 1, 0, 0, 1)}},
		{api.ErrArity, []api.Change{ch(0, -2, 0), ch(6, 1, 4, 1)}},
		{api.ErrRange, []api.Change{ch(0, most, 0)}},
		{api.ErrRange, []api.Change{ch(0, most-1, 0)}},
		{api.ErrRange, []api.Change{ch(0, most-1, 0), ch(0, 1, 5), ch(6, 1, 5)}},
		// The first one that is wrong, but the range last of all.
		{api.ErrPlace, []api.Change{ch(7, 1, 0, 1)}},
		{api.ErrArity, []api.Change{ch(0, 1, 0, 1), ch(7, 1, 0)}},
		{api.ErrPlace, []api.Change{ch(0, most, 0), ch(7, 1, 0)}},
		{api.ErrArity, []api.Change{ch(0, most, 0), ch(1, 1, 0, 1)}},
	} {
		hearsNot(t, v, c.e, c.l...)
	}
	counts(t, v, ch(0, 2, 0))
	none := begin(t, api.Graph{Arity: 3}, 5)
	hearsNot(t, none, api.ErrPlace, ch(0, 1))
}

func TestNothingIsHeard(t *testing.T) { // P17.3
	v := begin(t, round(), 2)
	for _, b := range [][]byte{nil, {}, make([]byte, 0, 3), put(t)} {
		if err := v.Hear(b); err != nil {
			t.Errorf("Hear of no bytes: %v", err)
		}
		counts(t, v, ch(0, 2, 0))
		all(t, v, 0, 0, 1, 0, 1, 0, 0)
	}
}

func TestCountsBelowZero(t *testing.T) { // P17.4
	v := begin(t, round(), 1)
	hears(t, v, ch(5, -3, 0), ch(6, -1, 2))
	counts(t, v, ch(0, 1, 0), ch(5, -3, 0), ch(6, -1, 2))
	all(t, v, 0, 0, 1, 0, 1, 0, 0)
	hears(t, v, ch(0, -1, 0))
	all(t, v, -1, -1, -1, -1, -1, -1, -1)
	for place := range 7 {
		opens(t, v, place, false, at(), at(last))
	}
	hears(t, v, ch(5, 3, 0))
	counts(t, v, ch(6, -1, 2))
	hears(t, v, ch(5, 1, 0))
	all(t, v, -1, 0, 1, -1, 1, 0, 0)
	hears(t, v, ch(0, -2, 0), ch(5, -1, 0), ch(6, 2, 2))
	counts(t, v, ch(0, -2, 0), ch(6, 1, 2))
	all(t, v, -1, -1, -1, -1, -1, -1, 2)
}

func TestSeveralTimesInAFront(t *testing.T) { // P17.4
	v := begin(t, forked(), 6)
	counts(t, v)
	hears(t, v, ch(0, 1, 2, 2), ch(2, 1, 0, 9))
	owns(t, v, ch(2, 1, 9, 0), ch(2, 1, 9, 9))
	fronts(t, v, 0, at(2, 2))
	fronts(t, v, 1, at(2, 3), at(3, 2))
	fronts(t, v, 2, at(0, 9), at(2, 3), at(3, 2), at(9, 0))
	opens(t, v, 2, true, at(0, 9), at(2, 3), at(3, 2), at(9, 0), at(3, 3), at(9, 9), at(last, last, last))
	opens(t, v, 2, false, at(), at(0, 8), at(2, 2), at(1, 8), at(8, 1), at(2, 2, last))
	counts(t, v, ch(0, 1, 2, 2), ch(2, 1, 0, 9), ch(2, 1, 9, 0), ch(2, 1, 9, 9))
}

func TestWhatIsNoPlace(t *testing.T) { // P17.4
	v := begin(t, round(), 2)
	hears(t, v, ch(0, 1, 7), ch(6, 1, 0))
	for _, place := range []int{-1, 7, 8, 191, 192, math.MinInt, math.MaxInt} {
		fronts(t, v, place)
		opens(t, v, place, false, at(), at(5), at(last, last, last))
	}
	// Of a time that doesn't fit its numbers are asked.
	opens(t, v, 2, true, at(1, 1), at(1, 0, 7), at(last, last, last))
	opens(t, v, 2, false, at(0, 1), at(0, last, last))
}
