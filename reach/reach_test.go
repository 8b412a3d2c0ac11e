package reach

import (
	"math"
	"slices"
	"testing"

	"sluice/api"
	"sluice/graph"
)

const (
	most = api.MaxCount
	last = math.MaxUint64 // the greatest number of a time
)

func input() api.Node { return api.Node{Kind: api.KInput, Outs: 1} }
func probe() api.Node { return api.Node{Kind: api.KProbe, Ins: 1} }

func join(ins int) api.Node { return api.Node{Kind: api.KJoin, Ins: ins, Outs: 1} }

func loop(by api.Path) api.Node {
	return api.Node{Kind: api.KLoop, Ins: 1, Outs: 1, By: by, Bound: 9}
}

func free(ins, outs int, conns ...api.Conn) api.Node {
	return api.Node{Kind: api.KFree, Ins: ins, Outs: outs, Conns: conns}
}

// mapped are so many maps: the places of the map n are 2 n and 2 n + 1.
func mapped(many int) []api.Node {
	return slices.Repeat([]api.Node{{Kind: api.KMap, Ins: 1, Outs: 1}}, many)
}

func by(numbers ...uint64) api.Path {
	numbers = append(slices.Clone(numbers), 0, 0, 0)
	return api.Path{A: numbers[0], B: numbers[1], C: numbers[2]}
}

func at(numbers ...uint64) api.Time { return api.Time(by(numbers...)) }

func stamped(place int, numbers ...uint64) api.Stamp {
	return api.Stamp{At: place, T: at(numbers...)}
}

// ch is a change by n of a time at a place.
func ch(place int, n int64, numbers ...uint64) api.Change {
	return api.Change{S: stamped(place, numbers...), N: n}
}

// round is the graph of the chapter's examples: input 0, loop 1 2, join 3 4 5, probe 6.
func round() api.Graph {
	return api.Graph{Arity: 1, Nodes: []api.Node{input(), loop(by(1)), join(2), probe()}, Edges: []api.Edge{{From: 0, To: 2}, {From: 2, To: 1}, {From: 1, To: 2, In: 1}, {From: 2, To: 3}}}
}

// around is two loops round one join, each by a number of its own: input 0, join 1 2 3 4, loops 5 6 and 7 8, probe 9.
func around() api.Graph {
	return api.Graph{Arity: 2, Nodes: []api.Node{input(), join(3), loop(by(1, 0)), loop(by(0, 1)), probe()}, Edges: []api.Edge{{From: 0, To: 1}, {From: 1, To: 2}, {From: 1, To: 3}, {From: 2, To: 1, In: 1}, {From: 3, To: 1, In: 2}, {From: 1, To: 4}}}
}

// forked is a free node by which a time goes on in two ways: in-place 0, out-place 1, probe 2.
func forked() api.Graph {
	return api.Graph{Arity: 2, Nodes: []api.Node{free(1, 1, api.Conn{By: by(1)}, api.Conn{By: by(0, 1)}), probe()}, Edges: []api.Edge{{From: 0, To: 1}}}
}

// doubling is a row of free nodes, the one number i with two connections that add 2^i, at one number and at another: so 2^n least paths from the first place to the last. The places of the node n are 2 n and 2 n + 1.
func doubling(many int) api.Graph {
	g := api.Graph{Arity: 2}
	for i := range many {
		g.Nodes = append(g.Nodes, free(1, 1, api.Conn{By: by(1 << i)}, api.Conn{By: by(0, 1<<i)}))
		if i > 0 {
			g.Edges = append(g.Edges, api.Edge{From: i - 1, To: i})
		}
	}
	return g
}

func made(t *testing.T, g api.Graph) *graph.Graph {
	t.Helper()
	x, e, at := graph.New(g)
	if e != api.OK {
		t.Fatalf("the graph may not be: %d at %d: %v", e, at, g)
	}
	return x
}

// of is a reach with some counts.
func of(t *testing.T, g api.Graph, l ...api.Change) *Reach {
	t.Helper()
	r, e := New(made(t, g))
	if r == nil || e != api.OK {
		t.Fatalf("New = %v, %d: %v", r, e, g)
	}
	if len(l) > 0 {
		changes(t, r, l...)
	}
	return r
}

func changes(t *testing.T, r *Reach, l ...api.Change) {
	t.Helper()
	if e := r.Change(l...); e != api.OK {
		t.Errorf("Change(%v) = %d", l, e)
	}
}

// refuses holds that a list is refused, and that all is as it was.
func refuses(t *testing.T, r *Reach, want api.Errno, l ...api.Change) {
	t.Helper()
	was := answersOf(r)
	if e := r.Change(l...); e != want {
		t.Errorf("Change(%v) = %d, want %d", l, e, want)
	}
	if !answersOf(r).same(was) {
		t.Errorf("Change(%v) was refused, and has changed something", l)
	}
}

func fronts(t *testing.T, r *Reach, place int, want ...api.Time) {
	t.Helper()
	if l := r.Front(place); !slices.Equal(l, want) {
		t.Errorf("Front(%d) = %v, want %v", place, l, want)
	}
}

// all holds every front against times by A alone; nothing at a place: -1.
func all(t *testing.T, r *Reach, want ...int) {
	t.Helper()
	for place, a := range want {
		if a < 0 {
			fronts(t, r, place)
		} else {
			fronts(t, r, place, at(uint64(a)))
		}
	}
}

func turns(t *testing.T, r *Reach, want ...api.Change) {
	t.Helper()
	if l := r.Turns(); !slices.Equal(l, want) {
		t.Errorf("Turns = %v, want %v", l, want)
	}
}

func counts(t *testing.T, r *Reach, want ...api.Change) {
	t.Helper()
	if l := r.Counts(); !slices.Equal(l, want) {
		t.Errorf("Counts = %v, want %v", l, want)
	}
	for _, c := range want {
		if n := r.Count(c.S); n != c.N {
			t.Errorf("Count(%v) = %d, want %d", c.S, n, c.N)
		}
	}
}

func opens(t *testing.T, r *Reach, place int, want bool, l ...api.Time) {
	t.Helper()
	for _, u := range l {
		if r.Open(place, u) != want {
			t.Errorf("Open(%d, %v) isn't %v", place, u, want)
		}
	}
}

func TestTheExample(t *testing.T) { // P12.1 to P12.4
	r := of(t, round())
	fronts(t, r, 6)
	turns(t, r)
	changes(t, r, ch(0, 1, 4))
	all(t, r, 4, 4, 5, 4, 5, 4, 4)
	turns(t, r, ch(0, 1, 4), ch(1, 1, 4), ch(2, 1, 5), ch(3, 1, 4), ch(4, 1, 5), ch(5, 1, 4), ch(6, 1, 4))
	changes(t, r, ch(1, 1, 2))
	all(t, r, 4, 2, 3, 4, 3, 3, 3)
	changes(t, r, ch(1, 1, 2))
	turns(t, r)
	changes(t, r, ch(1, -2, 2), ch(0, -1, 4), ch(0, 1, 7))
	all(t, r, 7, 7, 8, 7, 8, 7, 7)
	opens(t, r, 6, false, at(6))
	opens(t, r, 6, true, at(7))
	changes(t, r, ch(3, -1, 0))
	fronts(t, r, 3, at(7))
	counts(t, r, ch(0, 1, 7), ch(3, -1, 0))
	refuses(t, r, api.ErrPlace, ch(7, 1, 0))
	refuses(t, r, api.ErrRange, ch(0, 2147483648, 0))
	refuses(t, r, api.ErrArity, ch(0, 1, 0, 1, 0))
	fronts(t, r, 7)
	opens(t, r, -1, false, at(0))
	if r.Count(stamped(99, 0)) != 0 {
		t.Error("what is no place has a count")
	}
}

func TestMade(t *testing.T) { // P12.1
	for _, g := range []api.Graph{{Arity: 3}, round(), around(), forked(), doubling(6)} {
		r := of(t, g)
		places := made(t, g).Places()
		for place := -1; place <= places; place++ {
			fronts(t, r, place)
			opens(t, r, place, false, at(), at(last, last, last))
		}
		turns(t, r)
		counts(t, r)
	}
}

func TestNotMade(t *testing.T) { // P12.1, P4
	ring := api.Graph{Arity: 2, Nodes: mapped(2), Edges: []api.Edge{{From: 0, To: 1}, {From: 1, To: 0}}}
	both := doubling(7)
	both.Nodes = append(both.Nodes, mapped(1)...)
	both.Edges = append(both.Edges, api.Edge{From: 7, To: 7})
	still := round()
	still.Nodes[1].By = by()
	for _, c := range []struct {
		g *graph.Graph
		e api.Errno
	}{{nil, api.ErrArg}, {made(t, ring), api.ErrCycle}, {made(t, still), api.ErrCycle}, {made(t, doubling(7)), api.ErrWide}, {made(t, both), api.ErrCycle}} {
		if r, e := New(c.g); r != nil || e != c.e {
			t.Errorf("New = %v, %d, want nil, %d", r, e, c.e)
		}
	}
}

func TestAListWithoutChanges(t *testing.T) { // P12.2, P12.3
	r := of(t, round())
	changes(t, r)
	turns(t, r)
	changes(t, r, ch(6, 1, 3))
	turns(t, r, ch(6, 1, 3))
	changes(t, r)
	turns(t, r)
	changes(t, r, ch(6, 1, 2))
	turns(t, r, ch(6, 1, 2), ch(6, -1, 3))
	changes(t, r, []api.Change{}...)
	turns(t, r)
	counts(t, r, ch(6, 1, 2), ch(6, 1, 3))
	all(t, r, -1, -1, -1, -1, -1, -1, 2)
}

func TestWhatIsRefused(t *testing.T) { // P12.2, P4
	misfit := ch(0, 1, 0, 1)
	cases := []struct {
		e api.Errno
		l []api.Change
	}{
		{api.ErrPlace, []api.Change{ch(7, 1, 0)}},
		{api.ErrPlace, []api.Change{ch(-1, 1, 0)}},
		{api.ErrPlace, []api.Change{ch(math.MaxInt, 0, 0)}},
		{api.ErrPlace, []api.Change{ch(math.MinInt, 0, 0)}},
		{api.ErrArity, []api.Change{misfit}},
		{api.ErrArity, []api.Change{ch(0, 0, 0, 0, 1)}},
		{api.ErrRange, []api.Change{ch(0, most+1, 0)}},
		{api.ErrRange, []api.Change{ch(0, -most-1, 0)}},
		{api.ErrRange, []api.Change{ch(0, math.MaxInt64, 0)}},
		{api.ErrRange, []api.Change{ch(0, math.MinInt64, 0)}},
		{api.ErrRange, []api.Change{ch(0, most, 4)}},
		// Of one change the place comes first.
		{api.ErrPlace, []api.Change{ch(7, most+1, 0, 1)}},
		{api.ErrArity, []api.Change{ch(0, most+1, 0, 1)}},
		// Of several the first one that is wrong, but the range last of all.
		{api.ErrArity, []api.Change{misfit, ch(7, 1, 0)}},
		{api.ErrPlace, []api.Change{ch(7, 1, 0), misfit}},
		{api.ErrPlace, []api.Change{ch(0, most+1, 5), ch(7, 1, 0)}},
		{api.ErrArity, []api.Change{ch(0, most+1, 5), misfit}},
		{api.ErrPlace, []api.Change{ch(0, most, 4), ch(0, 1, 5), ch(-1, 1, 0), misfit}},
		// A change beyond the range is so whatever stands beside it.
		{api.ErrRange, []api.Change{ch(0, most+1, 5), ch(0, -1, 5)}},
		{api.ErrRange, []api.Change{ch(0, -1, 5), ch(0, most+1, 5)}},
		{api.ErrRange, []api.Change{ch(0, math.MaxInt64, 5), ch(0, math.MinInt64, 5), ch(0, 1, 5)}},
		{api.ErrRange, []api.Change{ch(6, 1, 0), ch(0, 1, 1), ch(5, most, 2), ch(5, 1, 2)}},
		{api.ErrRange, []api.Change{ch(0, -1, 4), ch(0, 1, 7), ch(1, -most, 3), ch(1, -1, 3)}},
	}
	fresh, held := of(t, round()), of(t, round(), ch(0, 1, 4))
	for _, c := range cases {
		refuses(t, held, c.e, c.l...)
		if c.l[0] != ch(0, most, 4) || c.e == api.ErrPlace {
			refuses(t, fresh, c.e, c.l...)
		}
	}
	turns(t, fresh)
	turns(t, held, ch(0, 1, 4), ch(1, 1, 4), ch(2, 1, 5), ch(3, 1, 4), ch(4, 1, 5), ch(5, 1, 4), ch(6, 1, 4))
	changes(t, held, ch(0, -1, 4))
	all(t, held, -1, -1, -1, -1, -1, -1, -1)
}

func TestTimesFitTheArity(t *testing.T) { // P12.2
	for arity := 1; arity <= api.MaxArity; arity++ {
		r := of(t, api.Graph{Arity: arity, Nodes: []api.Node{probe()}})
		for _, c := range []struct {
			counting int
			u        api.Time
		}{{1, at(last)}, {2, at(0, 1)}, {2, at(last, last)}, {3, at(0, 0, 1)}, {3, at(0, 1, 1)}, {3, at(last, 0, last)}} {
			change := api.Change{S: api.Stamp{T: c.u}, N: 1}
			if c.counting > arity {
				refuses(t, r, api.ErrArity, change)
			} else {
				changes(t, r, change)
				counts(t, r, change)
				changes(t, r, api.Change{S: change.S, N: -1})
			}
		}
	}
}

func TestTheEndsOfTheRange(t *testing.T) { // P12.2
	r := of(t, round(), ch(0, most, 4), ch(0, -most, 5))
	counts(t, r, ch(0, most, 4), ch(0, -most, 5))
	refuses(t, r, api.ErrRange, ch(0, 1, 4))
	refuses(t, r, api.ErrRange, ch(0, -1, 5))
	refuses(t, r, api.ErrRange, ch(0, 1, 4), ch(0, 1, 5))
	refuses(t, r, api.ErrRange, ch(0, 1, 4), ch(3, -1, 4))
	// From one end to the other, and back.
	changes(t, r, ch(0, -most, 4), ch(0, most, 5), ch(0, -most, 4), ch(0, most, 5))
	counts(t, r, ch(0, -most, 4), ch(0, most, 5))
	all(t, r, 5, 5, 6, 5, 6, 5, 5)
	turns(t, r, ch(0, -1, 4), ch(0, 1, 5), ch(1, -1, 4), ch(1, 1, 5), ch(2, -1, 5), ch(2, 1, 6), ch(3, -1, 4), ch(3, 1, 5), ch(4, -1, 5), ch(4, 1, 6), ch(5, -1, 4), ch(5, 1, 5), ch(6, -1, 4), ch(6, 1, 5))
	refuses(t, r, api.ErrRange, ch(0, most, 4), ch(0, most, 4), ch(0, 1, 4), ch(0, most, 5))
	changes(t, r, ch(0, most, 4), ch(0, most, 4), ch(0, -most, 5), ch(0, -most, 5))
	counts(t, r, ch(0, most, 4), ch(0, -most, 5))
}

func TestTheWholeListCounts(t *testing.T) { // P12.2
	r := of(t, round(), ch(0, most, 4))
	// Beyond the range in the middle, within it behind the whole.
	changes(t, r, ch(0, most, 4), ch(0, most, 4), ch(6, 1, 1), ch(0, -most, 4), ch(0, -most, 4))
	counts(t, r, ch(0, most, 4), ch(6, 1, 1))
	changes(t, r, ch(0, 1, 4), ch(0, -1, 4))
	turns(t, r)
	changes(t, r, ch(0, 5, 9), ch(0, -5, 9), ch(1, 0, 0))
	turns(t, r)
	counts(t, r, ch(0, most, 4), ch(6, 1, 1))
	// Within it in the middle, beyond it behind the whole.
	refuses(t, r, api.ErrRange, ch(0, -3, 4), ch(0, 2, 4), ch(0, 2, 4))
	// The counts of one time at several places don't add up.
	changes(t, r, ch(1, most, 4), ch(2, most, 4), ch(3, -most, 4))
	counts(t, r, ch(0, most, 4), ch(1, most, 4), ch(2, most, 4), ch(3, -most, 4), ch(6, 1, 1))
}

func TestCountsThatTurnNothing(t *testing.T) { // P12.3, P12.6
	r := of(t, round())
	came := []api.Change{ch(3, 1, 2), ch(1, 1, 2), ch(2, 1, 3), ch(4, 1, 3), ch(5, 1, 2), ch(6, 1, 2)}
	slices.SortFunc(came, plainTold)
	went := slices.Clone(came)
	for i := range went {
		went[i].N = -1
	}
	for _, c := range []struct {
		n     int64
		turns []api.Change
	}{
		{-1, nil}, {-1, nil}, {1, nil}, {1, nil}, {1, came}, {1, nil}, {5, nil}, {-6, nil}, {-1, went}, {-1, nil}, {2, came}, {-2, went}, {1, nil}, {0, nil}, {most, came}, {-most + 1, nil}, {-1, went},
	} {
		was := r.Count(stamped(3, 2))
		changes(t, r, ch(3, c.n, 2))
		turns(t, r, c.turns...)
		if r.Count(stamped(3, 2)) != was+c.n {
			t.Errorf("Count = %d", r.Count(stamped(3, 2)))
		}
		if was+c.n > 0 {
			all(t, r, -1, 2, 3, 2, 3, 2, 2)
		} else {
			all(t, r, -1, -1, -1, -1, -1, -1, -1)
		}
	}
}

func TestOneHidesAnother(t *testing.T) { // P12.3, P12.6
	// At one place.
	r := of(t, round(), ch(6, 1, 5), ch(6, 1, 9))
	fronts(t, r, 6, at(5))
	changes(t, r, ch(6, 1, 7))
	turns(t, r)
	changes(t, r, ch(6, -1, 5))
	turns(t, r, ch(6, -1, 5), ch(6, 1, 7))
	changes(t, r, ch(6, -1, 7))
	turns(t, r, ch(6, -1, 7), ch(6, 1, 9))
	// From one place to another one, by a loop.
	r = of(t, round(), ch(0, 1, 4), ch(6, 1, 9), ch(4, 1, 7), ch(1, 1, 6))
	all(t, r, 4, 4, 5, 4, 5, 4, 4)
	changes(t, r, ch(0, -1, 4))
	all(t, r, -1, 6, 7, -1, 7, 7, 7)
	turns(t, r, ch(0, -1, 4), ch(1, -1, 4), ch(1, 1, 6), ch(2, -1, 5), ch(2, 1, 7), ch(3, -1, 4), ch(4, -1, 5), ch(4, 1, 7), ch(5, -1, 4), ch(5, 1, 7), ch(6, -1, 4), ch(6, 1, 7))
	changes(t, r, ch(1, -1, 6))
	turns(t, r, ch(1, -1, 6), ch(1, 1, 7), ch(2, -1, 7), ch(2, 1, 8))
	changes(t, r, ch(4, -1, 7))
	all(t, r, -1, -1, -1, -1, -1, -1, 9)
	// A count below 0 hides nothing, and takes nothing from another time.
	r = of(t, round(), ch(0, 1, 4), ch(3, -5, 4), ch(5, -1, 0))
	all(t, r, 4, 4, 5, 4, 5, 4, 4)
	changes(t, r, ch(3, 5, 4), ch(5, 1, 0))
	turns(t, r)
}

func TestAFrontThatHangsOnItself(t *testing.T) { // P12.2, P12.6
	// What goes round a loop is no reason for itself.
	r := of(t, round(), ch(5, 1, 3))
	all(t, r, -1, 3, 4, -1, 4, 3, 3)
	changes(t, r, ch(5, -1, 3))
	all(t, r, -1, -1, -1, -1, -1, -1, -1)
	turns(t, r, ch(1, -1, 3), ch(2, -1, 4), ch(4, -1, 4), ch(5, -1, 3), ch(6, -1, 3))
	// Nor does it go on number by number to what is far away.
	changes(t, r, ch(5, 1, 0))
	changes(t, r, ch(5, -1, 0), ch(1, 1, last-1))
	fronts(t, r, 1, at(last-1))
	fronts(t, r, 2, at(last))
	fronts(t, r, 5, at(last))
	changes(t, r, ch(1, -1, last-1), ch(2, 1, 0))
	changes(t, r, ch(2, -1, 0), ch(2, 1, last))
	fronts(t, r, 1, at(last))
	fronts(t, r, 2, at(last))
	changes(t, r, ch(2, -1, last))
	all(t, r, -1, -1, -1, -1, -1, -1, -1)
}

func TestTwoLoopsRoundOneJoin(t *testing.T) { // P12.2, P12.6
	r := of(t, around(), ch(4, 1, 0, 0))
	fronts(t, r, 2, at(1, 0))
	fronts(t, r, 3, at(0, 1))
	fronts(t, r, 5, at(0, 0))
	// Of two that are apart each goes round both.
	changes(t, r, ch(6, 1, 2, 7), ch(8, 1, 7, 2), ch(4, -1, 0, 0))
	fronts(t, r, 0)
	fronts(t, r, 1)
	fronts(t, r, 2, at(2, 7), at(8, 2))
	fronts(t, r, 3, at(2, 8), at(7, 2))
	for _, place := range []int{4, 5, 7, 9} {
		fronts(t, r, place, at(2, 7), at(7, 2))
	}
	fronts(t, r, 6, at(2, 7), at(8, 2))
	fronts(t, r, 8, at(2, 8), at(7, 2))
	changes(t, r, ch(8, -1, 7, 2))
	fronts(t, r, 2, at(2, 7))
	fronts(t, r, 3, at(2, 8))
	turns(t, r, ch(2, -1, 8, 2), ch(3, -1, 7, 2), ch(4, -1, 7, 2), ch(5, -1, 7, 2), ch(6, -1, 8, 2), ch(7, -1, 7, 2), ch(8, -1, 7, 2), ch(9, -1, 7, 2))
	changes(t, r, ch(6, -1, 2, 7), ch(0, 1, 1<<63, 1<<62))
	fronts(t, r, 9, at(1<<63, 1<<62))
	changes(t, r, ch(0, -1, 1<<63, 1<<62))
	for place := range 10 {
		fronts(t, r, place)
	}
}

func TestSeveralTimesComeAndGoInOneChange(t *testing.T) { // P12.2, P12.3
	r := of(t, forked(), ch(1, 1, 9, 0), ch(1, 1, 0, 9), ch(1, 1, 4, 4), ch(1, 1, 5, 5), ch(1, 1, 4, 4))
	fronts(t, r, 1, at(0, 9), at(4, 4), at(9, 0))
	turns(t, r, ch(1, 1, 0, 9), ch(1, 1, 4, 4), ch(1, 1, 9, 0), ch(2, 1, 0, 9), ch(2, 1, 4, 4), ch(2, 1, 9, 0))
	// All of them give way to one that is at or ahead of them, and stand there again when it goes.
	changes(t, r, ch(0, 1, 0, 0), ch(1, 1, 0, 0))
	fronts(t, r, 2, at(0, 0))
	turns(t, r, ch(0, 1, 0, 0), ch(1, 1, 0, 0), ch(1, -1, 0, 9), ch(1, -1, 4, 4), ch(1, -1, 9, 0), ch(2, 1, 0, 0), ch(2, -1, 0, 9), ch(2, -1, 4, 4), ch(2, -1, 9, 0))
	changes(t, r, ch(0, -1, 0, 0), ch(1, -1, 0, 0))
	turns(t, r, ch(0, -1, 0, 0), ch(1, -1, 0, 0), ch(1, 1, 0, 9), ch(1, 1, 4, 4), ch(1, 1, 9, 0), ch(2, -1, 0, 0), ch(2, 1, 0, 9), ch(2, 1, 4, 4), ch(2, 1, 9, 0))
	// What comes and goes within one list has never been there.
	changes(t, r, ch(1, 1, 1, 1), ch(0, 3, 2, 2), ch(1, -1, 1, 1), ch(0, -3, 2, 2))
	turns(t, r)
	changes(t, r, ch(1, -1, 9, 0), ch(1, -1, 0, 9), ch(1, -2, 4, 4))
	turns(t, r, ch(1, -1, 0, 9), ch(1, -1, 4, 4), ch(1, 1, 5, 5), ch(1, -1, 9, 0), ch(2, -1, 0, 9), ch(2, -1, 4, 4), ch(2, 1, 5, 5), ch(2, -1, 9, 0))
}

func TestTurnsInTheOrderOfTelling(t *testing.T) { // P12.3
	r := of(t, forked(), ch(0, 1, 2, 2), ch(2, 1, 0, 9))
	changes(t, r, ch(0, -1, 2, 2), ch(0, 1, 1, 4), ch(0, 1, 3, 1), ch(2, 1, 9, 0))
	// 3 2 has left place 1 as what 2 2 makes, and is what 3 1 makes: it has stayed.
	fronts(t, r, 1, at(1, 5), at(2, 4), at(3, 2), at(4, 1))
	fronts(t, r, 2, at(0, 9), at(1, 5), at(2, 4), at(3, 2), at(4, 1), at(9, 0))
	turns(t, r,
		ch(0, 1, 1, 4), ch(0, -1, 2, 2), ch(0, 1, 3, 1),
		ch(1, 1, 1, 5), ch(1, -1, 2, 3), ch(1, 1, 2, 4), ch(1, 1, 4, 1),
		ch(2, 1, 1, 5), ch(2, -1, 2, 3), ch(2, 1, 2, 4), ch(2, 1, 4, 1), ch(2, 1, 9, 0))
	changes(t, r, ch(0, -1, 1, 4), ch(0, -1, 3, 1), ch(2, -1, 0, 9), ch(2, -1, 9, 0))
	turns(t, r,
		ch(0, -1, 1, 4), ch(0, -1, 3, 1),
		ch(1, -1, 1, 5), ch(1, -1, 2, 4), ch(1, -1, 3, 2), ch(1, -1, 4, 1),
		ch(2, -1, 0, 9), ch(2, -1, 1, 5), ch(2, -1, 2, 4), ch(2, -1, 3, 2), ch(2, -1, 4, 1), ch(2, -1, 9, 0))
	for place := range 3 {
		fronts(t, r, place)
	}
}

func TestAsManyLeastPathsAsMayBe(t *testing.T) { // P12.2, P12.3
	r := of(t, doubling(6), ch(0, 1, 1, 1))
	var want []api.Time
	var came []api.Change
	for a := range uint64(api.MaxLeast) {
		want = append(want, at(1+a, api.MaxLeast-a))
		came = append(came, ch(11, 1, 1+a, api.MaxLeast-a))
	}
	fronts(t, r, 11, want...)
	l := r.Turns()
	if !slices.Equal(l[len(l)-len(came):], came) || len(l) != 1+2*(2+4+8+16+32)+64 {
		t.Errorf("Turns = %v", l)
	}
	changes(t, r, ch(0, -1, 1, 1), ch(0, 1, 2, 1))
	for i := range want {
		want[i].A++
	}
	fronts(t, r, 11, want...)
	changes(t, r, ch(0, -1, 2, 1))
	fronts(t, r, 11)
}

func TestTimesNearTheGreatest(t *testing.T) { // P12.2, P12.4
	r := of(t, forked(), ch(0, 1, last, 3))
	fronts(t, r, 0, at(last, 3))
	fronts(t, r, 1, at(last, 4))
	changes(t, r, ch(0, -1, last, 3), ch(0, 1, last, last))
	fronts(t, r, 0, at(last, last))
	fronts(t, r, 1)
	turns(t, r, ch(0, -1, last, 3), ch(0, 1, last, last), ch(1, -1, last, 4), ch(2, -1, last, 4))
	changes(t, r, ch(0, 1, last-1, last))
	fronts(t, r, 1, at(last, last))
	opens(t, r, 2, true, at(last, last), at(last, last, last))
	opens(t, r, 2, false, at(last, last-1), at(last-1, last))
	r = of(t, round(), ch(1, 1, last))
	all(t, r, -1)
	fronts(t, r, 1, at(last))
	fronts(t, r, 2)
	changes(t, r, ch(1, -1, last), ch(2, 1, last))
	for _, place := range []int{1, 2, 4, 5, 6} {
		fronts(t, r, place, at(last))
	}
	turns(t, r, ch(2, 1, last), ch(4, 1, last), ch(5, 1, last), ch(6, 1, last))
	// By paths so great that two of them behind one another are none.
	r = of(t, api.Graph{Arity: 1, Nodes: []api.Node{loop(by(last)), loop(by(1))}, Edges: []api.Edge{{From: 0, To: 1}, {From: 1, To: 0}}}, ch(0, 1, 0), ch(3, 1, 5))
	fronts(t, r, 0, at(0))
	fronts(t, r, 1, at(last))
	fronts(t, r, 2, at(last))
	fronts(t, r, 3, at(5))
	changes(t, r, ch(0, -1, 0))
	turns(t, r, ch(0, -1, 0), ch(0, 1, 5), ch(1, -1, last), ch(2, -1, last))
}

func TestWhatIsNoPlace(t *testing.T) { // P12.4
	r := of(t, round(), ch(0, 1, 0), ch(6, 1, 0), ch(6, -3, 1))
	for _, place := range []int{-1, 7, 8, math.MinInt, math.MaxInt} {
		fronts(t, r, place)
		opens(t, r, place, false, at(), at(5), at(last, last, last))
		if r.Count(stamped(place)) != 0 || r.Count(stamped(place, 1)) != 0 {
			t.Errorf("a count at %d", place)
		}
	}
	none := of(t, api.Graph{Arity: 2})
	refuses(t, none, api.ErrPlace, ch(0, 1))
	fronts(t, none, 0)
	changes(t, none)
}

func TestTimesThatDoNotFit(t *testing.T) { // P12.4
	r := of(t, round(), ch(0, 2, 4), ch(0, -1, 3))
	for _, s := range []api.Stamp{stamped(0, 4, 1), stamped(0, 4, 0, 1), stamped(0, 3, 3), stamped(0, 0, 4), stamped(0, 5)} {
		if n := r.Count(s); n != 0 {
			t.Errorf("Count(%v) = %d", s, n)
		}
	}
	opens(t, r, 0, true, at(4, 1), at(4, 0, 1), at(9, last, last))
	opens(t, r, 0, false, at(3, last, last), at(0, 4, 4))
	opens(t, r, 2, true, at(5, 7, 7))
	opens(t, r, 2, false, at(4, 7, 7))
}

func TestCountsByPlacesThenTelling(t *testing.T) { // P12.4
	r := of(t, around(), ch(9, 1, 0, 3), ch(0, -2, 5, 1), ch(0, 7, 5, 0), ch(3, 1, 1, 1), ch(9, 4, 0, 2), ch(0, 1, 4, 9), ch(3, 1, 0, 0), ch(3, -1, 1, 1), ch(2, 0, 0, 0), ch(0, 1, 5, 0))
	want := []api.Change{ch(0, 1, 4, 9), ch(0, 8, 5, 0), ch(0, -2, 5, 1), ch(3, 1, 0, 0), ch(9, 4, 0, 2), ch(9, 1, 0, 3)}
	counts(t, r, want...)
	for _, c := range want {
		changes(t, r, api.Change{S: c.S, N: -c.N})
	}
	counts(t, r)
	for place := range 10 {
		fronts(t, r, place)
	}
}
