package rest

import (
	"fmt"
	"math"
	"slices"
	"testing"

	"sluice/api"
	"sluice/route"
	"sluice/world"
)

func input() api.Node { return api.Node{Kind: api.KInput, Outs: 1} }
func sum() api.Node   { return api.Node{Kind: api.KSum, Ins: 1, Outs: 1} }
func trap() api.Node  { return api.Node{Kind: api.KProbe, Ins: 1} }

func mapper() api.Node { return api.Node{Kind: api.KMap, Ins: 1, Outs: 1} }

func filter(l ...api.Op) api.Node { return api.Node{Kind: api.KFilter, Ins: 1, Outs: 1, Code: l} }

func join(ins int) api.Node { return api.Node{Kind: api.KJoin, Ins: ins, Outs: 1} }

func loop(by api.Path, bound uint64) api.Node {
	return api.Node{Kind: api.KLoop, Ins: 1, Outs: 1, By: by, Bound: bound}
}

func free(start bool, ins, outs int) api.Node {
	return api.Node{Kind: api.KFree, Ins: ins, Outs: outs, Start: start}
}

func edge(from, to int) api.Edge { return api.Edge{From: from, To: to} }

func keyed(from, to int) api.Edge { return api.Edge{From: from, To: to, Keyed: true} }

func graphOf(arity int, edges []api.Edge, nodes ...api.Node) api.Graph {
	return api.Graph{Arity: arity, Nodes: nodes, Edges: edges}
}

// summed is the chapter's graph: input 0, sum 1 2, probe 3.
func summed() api.Graph {
	return graphOf(1, []api.Edge{keyed(0, 1), edge(1, 2)}, input(), sum(), trap())
}

// asked is an input 0 and a free node's in-place 1, by a keyed edge: there it is seen which message came first.
func asked() api.Graph { return graphOf(1, []api.Edge{keyed(0, 1)}, input(), free(false, 1, 0)) }

func begin(t *testing.T, g api.Graph, workers int) *world.World {
	t.Helper()
	w, e, at := world.New(g, workers)
	if w == nil || e != api.OK {
		t.Fatalf("New = %d, %d: %v", e, at, g)
	}
	return w
}

func does(t *testing.T, w *world.World, l ...world.Act) {
	t.Helper()
	for _, a := range l {
		if _, e := w.Do(a); e != api.OK {
			t.Fatalf("%v = %d", a, e)
		}
	}
}

func send(self, node int, at api.Time, r api.Record) world.Act {
	return world.Act{Kind: world.Send, W: self, N: node, T: at, R: r}
}

func step(self int) world.Act { return world.Act{Kind: world.Step, W: self} }

// shuts closes all inputs that are open.
func shuts(t *testing.T, w *world.World) {
	t.Helper()
	for self := range w.Workers() {
		for node := range w.Graph().Nodes() {
			if _, open := w.Epoch(self, node); open {
				does(t, w, world.Act{Kind: world.Close, W: self, N: node})
			}
		}
	}
}

// keyOf is a key that belongs to a worker, one of several by a number.
func keyOf(worker, workers, number int) uint64 {
	for key := uint64(0); ; key++ {
		if route.To(key, workers) == worker {
			if number == 0 {
				return key
			}
			number--
		}
	}
}

// onWay is chapter 26's world behind its second example: a message and a batch on the way from 0 to 1.
func onWay(t *testing.T) *world.World {
	t.Helper()
	w := begin(t, summed(), 2)
	does(t, w, send(0, 0, api.Time{}, api.Record{Key: keyOf(1, 2, 0), Val: 5}))
	return w
}

// closed is the same behind both Closes.
func closed(t *testing.T) *world.World {
	t.Helper()
	w := onWay(t)
	shuts(t, w)
	return w
}

// answersOf is all that a world tells.
func answersOf(w *world.World) string {
	text := fmt.Sprintln(w.Tokens(), w.Outstanding())
	for self := range w.Workers() {
		text += fmt.Sprintln(self, w.Counts(self), w.Held(self))
		for place := range w.Graph().Places() {
			text += fmt.Sprint(w.Front(self, place), w.Waiting(self, place))
		}
		for node := range w.Graph().Nodes() {
			epoch, open := w.Epoch(self, node)
			text += fmt.Sprint(epoch, open)
		}
		for to := range w.Workers() {
			text += fmt.Sprintln(w.Batches(self, to), w.Messages(self, to))
		}
	}
	for node := range w.Graph().Nodes() {
		text += fmt.Sprintln(w.Caught(node))
	}
	return text
}

// emptied is all that a world tells when what is on its links comes, and then all that waits at its free nodes is taken: in which order it waits is seen there.
func emptied(w *world.World) string {
	text := answersOf(w)
	w = w.Copy()
	for self := range w.Workers() {
		for from := range w.Workers() {
			for range w.Batches(from, self) {
				x, _ := w.Do(world.Act{Kind: world.Hear, W: self, From: from})
				text += fmt.Sprintln(x)
			}
			for range w.Messages(from, self) {
				x, _ := w.Do(world.Act{Kind: world.Pass, W: self, From: from})
				text += fmt.Sprintln(x)
			}
		}
		for place := range w.Graph().Places() {
			for range w.Waiting(self, place) {
				x, e := w.Do(world.Act{Kind: world.Take, W: self, N: place})
				text += fmt.Sprintln(x.Message, e)
			}
		}
		x, e := w.Do(step(self))
		text += fmt.Sprintln(x, e)
	}
	return text
}

func rounds(t *testing.T, what string, w *world.World, most int, picks []int, n int, e api.Errno) {
	t.Helper()
	if m, f := Rest(w, most, picks...); m != n || f != e {
		t.Errorf("%s: Rest(%d) = %d, %d, want %d, %d", what, most, m, f, n, e)
	}
}

func enough(t *testing.T, what string, w *world.World, d int, e api.Errno) {
	t.Helper()
	for range 2 {
		if m, f := Enough(w); m != d || f != e {
			t.Errorf("%s: Enough = %d, %d, want %d, %d", what, m, f, d, e)
		}
	}
}

func is(t *testing.T, what string, w *world.World, exact, still bool) {
	t.Helper()
	for range 2 {
		if Exact(w) != exact || Still(w) != still {
			t.Errorf("%s: Exact %v, Still %v", what, Exact(w), Still(w))
		}
	}
}

func TestTheFirstExample(t *testing.T) { // P28.1, P28.2
	w := onWay(t)
	is(t, "a batch is on the way", w, false, false)
	for _, want := range []int{1, 0} {
		if n := HearAll(w); n != want {
			t.Errorf("HearAll = %d, want %d", n, want)
		}
		is(t, "all is heard", w, true, false)
	}
	if w.Messages(0, 1) != 1 {
		t.Error("HearAll has passed a message")
	}
}

func TestTheSecondExample(t *testing.T) { // P28.5
	w := onWay(t)
	enough(t, "two inputs are open", w, 0, api.ErrEpoch)
	does(t, w, world.Act{Kind: world.Close})
	enough(t, "an input is open", w, 0, api.ErrEpoch)
	does(t, w, world.Act{Kind: world.Close, W: 1})
	enough(t, "(1, 0), (2, 0), (3, 0)", w, 3, api.OK)
}

func TestTheThirdExample(t *testing.T) { // P28.3, P28.4, P28.6
	w := closed(t)
	goes := func(tokens ...api.Change) {
		t.Helper()
		if e := Round(w, nil, nil); e != api.OK || !slices.Equal(w.Tokens(), tokens) {
			t.Errorf("Round = %d, tokens %v, want %v", e, w.Tokens(), tokens)
		}
	}
	goes(api.Change{S: api.Stamp{At: 2}, N: 1})
	is(t, "the sum holds (2, 0)", w, false, false)
	goes()
	if l := w.Caught(2); len(l) != 1 || l[0].R.Val != 5 {
		t.Errorf("Caught = %v", l)
	}
	is(t, "worker 0 hasn't heard of it", w, false, false)
	goes()
	is(t, "the third round", w, true, true)

	w = closed(t)
	rounds(t, "from there", w, 9, nil, 3, api.OK)
	is(t, "three rounds", w, true, true)
	w = closed(t)
	rounds(t, "too few", w, 2, nil, 2, api.ErrHeavy)
	is(t, "two rounds", w, false, false)
}

func TestTheFourthExample(t *testing.T) { // P28.6, P28.7
	w := closed(t)
	rounds(t, "till it is still", w, 9, nil, 3, api.OK)
	was := answersOf(w)
	if e := Round(w, []int{1}, []int{-1, 1}); e != api.OK || answersOf(w) != was {
		t.Errorf("a round of a still world: %d", e)
	}
	rounds(t, "a still world", w, 0, nil, 0, api.OK)
	rounds(t, "a still world", w, 7, []int{3}, 0, api.OK)
	for _, most := range []int{-1, -2, math.MinInt} {
		rounds(t, "below 0", w, most, nil, 0, api.ErrArg)
	}
	if answersOf(w) != was {
		t.Error("the still world has changed")
	}
}

func TestTheFifthExample(t *testing.T) { // P28.3: picks
	for pick, want := range map[int]uint64{5: 2, -1: 2, -4: 2, 3: 0, 0: 0, 1: 1, -2: 1, -3: 0} {
		// Three workers send to the fourth one; their batches are heard, so the messages are on three links, and nothing is on others.
		w := begin(t, asked(), 4)
		for self := range 3 {
			does(t, w, send(self, 0, api.Time{}, api.Record{Key: keyOf(3, 4, 0), Val: uint64(self)}))
		}
		HearAll(w)
		if e := Round(w, []int{pick}, nil); e != api.OK || w.Waiting(3, 1) != 3 {
			t.Errorf("Round = %d", e)
		}
		if x, _ := w.Do(world.Act{Kind: world.Take, W: 3, N: 1}); x.Message.R.Val != want {
			t.Errorf("the pick %d of three links is %d, want %d", pick, x.Message.R.Val, want)
		}
	}
}

func TestANilWorld(t *testing.T) { // P28.1, P1
	for range 2 {
		if n := HearAll(nil, 1, 2); n != 0 {
			t.Errorf("HearAll = %d", n)
		}
		is(t, "nil", nil, false, false)
		if e := Round(nil, []int{1}, nil); e != api.ErrArg {
			t.Errorf("Round = %d", e)
		}
		enough(t, "nil", nil, 0, api.ErrArg)
		for _, most := range []int{0, 5, -1, math.MaxInt, math.MinInt} {
			rounds(t, "nil", nil, most, []int{2}, 0, api.ErrArg)
		}
	}
}
