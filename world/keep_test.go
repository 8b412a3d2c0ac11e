package world

import (
	"math"
	"reflect"
	"slices"
	"sync"
	"testing"

	"sluice/api"
	"sluice/draws"
)

// spoil writes over a list, grows it, and writes over the room behind it.
func spoil[T any](l []T, with T) {
	grown := append(l, with)
	for _, m := range [][]T{l[:cap(l)], grown[:cap(grown)]} {
		for i := range m {
			m[i] = with
		}
	}
}

// spoilGraph writes over all lists of a graph, also those inside.
func spoilGraph(g api.Graph) {
	for _, n := range g.Nodes {
		spoil(n.Code, api.Op{Kind: -9, Arg: 9})
		spoil(n.Conns, api.Conn{In: -9, Out: -9})
	}
	spoil(g.Edges, api.Edge{From: -9, To: -9})
	spoil(g.Nodes, api.Node{Kind: -9})
}

// spoilAnswers does so with all lists that a world tells.
func spoilAnswers(w *World) {
	spoil(w.Tokens(), ch(-9, 9, 9, 9, 9))
	for self := range w.Workers() {
		spoil(w.Counts(self), ch(-9, 9, 9, 9, 9))
		spoil(w.Held(self), held(-9, 9, 9))
		for place := range w.Graph().Places() {
			spoil(w.Front(self, place), at(9, 9, 9))
		}
	}
	for node := range w.Graph().Nodes() {
		spoil(w.Caught(node), caught(at(9), rec(9, 9)))
	}
	spoilGraph(w.Graph().Raw())
}

func (x told) spoil() {
	spoil(x.IDs, -9)
	spoil(x.Changes, ch(-9, 9, 9, 9, 9))
}

func isNobody(t *testing.T, w *World) {
	t.Helper()
	for range 2 {
		for kind := -1; kind <= 14; kind++ {
			for _, a := range []Act{{}, {W: -1, N: -1, From: -1}, {W: 1, N: 1}, {From: 1, T: at(0, 1)}, {W: math.MaxInt, From: math.MinInt}} {
				a.Kind = kind
				if x := a.of(w); !x.same(told{}) {
					t.Errorf("%v = %v", a, x)
				}
			}
		}
		if w.Workers() != 0 || w.Graph() != nil || len(w.Tokens()) != 0 || w.Outstanding() != 0 || w.Copy() != nil {
			t.Error("it tells something")
		}
		for _, n := range []int{0, 1, -1, 191, math.MaxInt, math.MinInt} {
			for _, m := range []int{0, 1, -1, math.MaxInt} {
				epoch, open := w.Epoch(n, m)
				if len(w.Front(n, m)) != 0 || w.Open(n, m, at(last, last, last)) || epoch != at() || open || w.Waiting(n, m) != 0 || w.Batches(n, m) != 0 || w.Messages(n, m) != 0 {
					t.Errorf("it tells something of %d and %d", n, m)
				}
			}
			if len(w.Counts(n)) != 0 || len(w.Held(n)) != 0 || len(w.Caught(n)) != 0 {
				t.Errorf("it tells something of %d", n)
			}
		}
	}
}

func TestANilOne(t *testing.T) { // P1
	isNobody(t, nil)
	// What New answers beside an error may be asked, too.
	for _, g := range []api.Graph{{}, standing(), doubling(7)} {
		w, _, _ := New(g, 1)
		isNobody(t, w)
	}
	w, _, _ := New(summed(), 0)
	isNobody(t, w)
	w, _, _ = New(nodes(mapper(api.Op{})), 1)
	isNobody(t, w)
}

// several are some worlds, new ones and behind acts, of all kinds of nodes.
func several(t *testing.T) []*World {
	t.Helper()
	l := []*World{acted(t), begin(t, summed(), 1), begin(t, draws.Rounds(), 8), begin(t, api.Graph{Arity: 3}, 2)}
	for i, raw := range []api.Graph{draws.Busy(), draws.Rounds(), kinds(), draws.Ring()} {
		x := playOf(t, raw, 1+i, draws.Numbers(uint64(i)), map[string]int{})
		for range 150 {
			x.goesOn(t)
		}
		l = append(l, x.w)
	}
	return l
}

func TestWhatIsToldIsNewMemory(t *testing.T) { // P2, P3
	for i, w := range several(t) {
		kept, other := answersOf(w), w.Copy()
		lists := [][]api.Change{w.Tokens(), w.Counts(0)}
		was := [][]api.Change{slices.Clone(lists[0]), slices.Clone(lists[1])}
		caught, front, held := w.Caught(2), w.Front(0, 3), w.Held(0)
		wereCaught, wasFront, wereHeld := slices.Clone(caught), slices.Clone(front), slices.Clone(held)
		spoilAnswers(w)
		if answersOf(w) != kept || !alike(w, other) {
			t.Errorf("%d: what is written over is seen", i)
		}
		// Nor does an answer see another one, or what comes later.
		for _, a := range append(nexts(w), nexts(w)...) {
			a.of(w)
		}
		if !reflect.DeepEqual(lists, was) || !slices.Equal(caught, wereCaught) || !slices.Equal(front, wasFront) || !slices.Equal(held, wereHeld) {
			t.Errorf("%d: an answer saw what came later", i)
		}
	}
}

func TestWhatAnActAnswersIsNewMemory(t *testing.T) { // P2: what is told of an act, and heard of it, is each time by itself
	for i, w := range several(t) {
		acts := nexts(w)
		for self := range w.Workers() {
			acts = append(acts, send(self, 0, at(9), rec(1, 1)), advance(self, 0, at(9)), clone(self, 1), clone(self, 2), take(self, 13), step(self))
		}
		v := w.Copy()
		var answers, kept []told
		for _, a := range append(acts, nexts(w)...) {
			x, y := a.of(w), a.of(v)
			if !x.same(y) {
				t.Fatalf("%d: what was told is written over, and then %v = %v, want %v", i, a, x, y)
			}
			x.spoil()
			answers = append(answers, y)
			y.IDs, y.Changes = slices.Clone(y.IDs), slices.Clone(y.Changes)
			kept = append(kept, y)
		}
		if !alike(w, v) {
			t.Errorf("%d: what was told is written over, and it is seen", i)
		}
		for j, y := range answers {
			if !y.same(kept[j]) {
				t.Errorf("%d: an answer saw what came later", i)
			}
		}
	}
}

func TestABatchIsHeardByEachByItself(t *testing.T) { // P2: the same batch is on several links, and in copies
	w := begin(t, summed(), 4)
	x := advance(0, 0, at(7)).of(w)
	x.spoil()
	v := w.Copy()
	for _, one := range []*World{w, v, w.Copy()} {
		for self := 1; self < 4; self++ {
			y := hear(self, 0).of(one)
			is(t, "heard", y.Changes, ch(0, -1, 0), ch(0, 1, 7))
			y.spoil()
			counts(t, one, self, ch(0, 3, 0), ch(0, 1, 7))
		}
	}
}

func TestTheGraphHandedInStaysAsItWas(t *testing.T) { // P2
	for i, raw := range []api.Graph{summed(), kinds(), fork(), draws.Ring(), draws.Busy(), draws.Rounds(), draws.Sums(), doubling(6), doubling(7), standing(), nodes(mapper(api.Op{})), flood()} {
		raw = draws.Roomy(raw)
		was := draws.Spare(raw)
		w, _, _ := New(raw, 3)
		other, _, _ := New(raw, 3)
		for range 2 {
			for _, a := range everything(w) {
				a.of(w)
			}
		}
		if !reflect.DeepEqual(draws.Spare(raw), was) {
			t.Errorf("graph %d is changed", i)
		}
		if w == nil {
			continue
		}
		// It may be written over, the lists inside of it too.
		kept := other.Copy()
		spoilGraph(raw)
		again := begin(t, kept.Graph().Raw(), 3)
		for range 2 {
			for _, a := range everything(again) {
				if x, y := a.of(other), a.of(again); !x.same(y) {
					t.Errorf("graph %d: it is written over, and %v = %v, want %v", i, a, x, y)
				}
			}
		}
		if !alike(w, again) || !alike(w, other) {
			t.Errorf("graph %d: what is written over is seen", i)
		}
	}
}

// everything is acts of all kinds at all nodes, places and numbers, link by link.
func everything(w *World) []Act {
	if w == nil {
		return nil
	}
	var l []Act
	for self := range w.Workers() {
		for node := range w.Graph().Nodes() {
			for i := range uint64(4) {
				l = append(l, send(self, node, at(i), rec(i, 7+i)))
			}
			l = append(l, advance(self, node, at(2)), run(self, node))
		}
		for place := range w.Graph().Places() {
			l = append(l, take(self, place))
		}
		for id := range 4 {
			l = append(l, clone(self, id), emit(self, id, at(5), rec(3, 3)), lower(self, id, at(6)))
		}
		for from := range w.Workers() {
			l = append(l, slices.Repeat([]Act{hear(self, from), pass(self, from)}, 12)...)
		}
		l = append(l, step(self), drop(self, 2))
	}
	return l
}

func TestTwoHaveNothingToDoWithEachOther(t *testing.T) { // P5: though they are of one graph
	raw := kinds()
	w, v := begin(t, raw, 2), begin(t, raw, 2)
	kept := answersOf(v)
	for _, a := range everything(w) {
		a.of(w)
	}
	if answersOf(v) != kept || !alike(v, begin(t, raw, 2)) {
		t.Error("another one is seen")
	}
}

func TestTheSameIsAnsweredEachTime(t *testing.T) { // P3
	for seed := range uint64(30) {
		var texts []string
		for range 3 {
			next := draws.Numbers(seed)
			x := playOf(t, draws.Lively(next), 1+next(4), next, map[string]int{})
			for range 60 {
				x.goesOn(t)
			}
			texts = append(texts, answersOf(x.w), answersOf(x.w))
		}
		if len(slices.Compact(texts)) != 1 {
			t.Errorf("seed %d: it is told otherwise", seed)
		}
	}
}

func TestManyAskAtOnce(t *testing.T) { // P3, P5: asking writes nothing, so many may ask one
	for i, w := range several(t) {
		kept := answersOf(w)
		var group sync.WaitGroup
		for range 8 {
			group.Go(func() {
				c := w.Copy()
				for _, a := range everything(c) {
					a.of(c)
				}
				if answersOf(w) != kept {
					t.Errorf("%d: many who ask are told otherwise", i)
				}
			})
		}
		group.Wait()
		if answersOf(w) != kept {
			t.Errorf("%d: what was done to the copies is seen", i)
		}
	}
}

func TestCopyAndThenActs(t *testing.T) { // P26.6, P5
	for i, w := range several(t) {
		kept := answersOf(w)
		c := w.Copy()
		if c == w || answersOf(c) != kept {
			t.Fatalf("%d: the copy tells something else", i)
		}
		for j, a := range append(nexts(w), everything(w)...) {
			if j%7 > 0 {
				continue
			}
			v, u := w.Copy(), w.Copy()
			x := a.of(v)
			if answersOf(w) != kept || answersOf(u) != kept {
				t.Fatalf("%d: %v of a copy is seen", i, a)
			}
			if y := a.of(u); !x.same(y) || !alike(u, v) {
				t.Fatalf("%d: %v of two copies: %v, %v", i, a, x, y)
			}
		}
		// Nor does the copy see what is done to the first one.
		for _, a := range everything(w) {
			a.of(w)
		}
		if answersOf(c) != kept {
			t.Errorf("%d: the copy saw it", i)
		}
	}
}

func TestBothGoOnWithTheSameNumber(t *testing.T) { // P26.6
	w := begin(t, row(free(true, 0, 1), trap()), 2)
	for range 4 {
		clone(1, 1).of(w)
	}
	drop(1, 5).of(w)
	c := w.Copy()
	for _, one := range []*World{w, c} {
		for id := 6; id < 9; id++ {
			mints(t, does(t, one, clone(1, 1), ch(0, 1, 0)), api.Message{}, id)
		}
		mints(t, does(t, one, clone(0, 1), ch(0, 1, 0)), api.Message{}, 2)
		onLink(t, one, 1, 0, 8, 0)
		onLink(t, one, 0, 1, 1, 0)
	}
}

func TestCopiesGoOnApart(t *testing.T) { // P26.6, P5: drawn scripts on both, and on copies of copies
	for seed := range uint64(120) {
		next := draws.Numbers(seed)
		raw := draws.Lively(next)
		plays := []*play{playOf(t, raw, 1+next(4), next, map[string]int{})}
		for range 160 {
			x := plays[next(len(plays))]
			if len(plays) < 4 && next(30) == 0 {
				plays = append(plays, x.copied())
			}
			x.goesOn(t)
		}
		for _, x := range plays {
			x.holds(t)
			x.underWay(t)
			safeBy(t, x.w, x.least)
		}
		// The same from here on brings the same.
		x := plays[0]
		y := x.copied()
		x.next, y.next = draws.Numbers(seed), draws.Numbers(seed)
		for range 30 {
			x.goesOn(t)
			y.goesOn(t)
		}
		if answersOf(x.w) != answersOf(y.w) {
			t.Error("the copy goes on otherwise")
		}
		if t.Failed() {
			t.Fatalf("seed %d: %v", seed, raw)
		}
	}
}
