package worker

import (
	"bytes"
	"fmt"
	"math"
	"slices"
	"sync"
	"testing"

	"sluice/api"
	"sluice/draws"
	"sluice/route"
)

// spoil writes over a list, grows it, and writes over the room behind it.
func spoil[T any](l []T, with T) {
	grown := append(l, with)
	for _, m := range [][]T{l[:cap(l)], grown[:cap(grown)]} {
		for i := range m {
			m[i] = with
		}
	}
}

// spoilAnswers does so with all lists that a worker tells.
func spoilAnswers(w *Worker) {
	spoil(w.Counts(), ch(-9, 9, 9, 9, 9))
	spoil(w.Tokens(), ch(-9, 9, 9, 9, 9))
	spoil(w.Held(), held(-9, 9, 9))
	for i := -1; i < 30; i++ {
		spoil(w.Front(i), at(9, 9, 9))
		spoil(w.Caught(i), caught(at(9), 9, 9))
	}
}

func (x told) spoil() {
	spoil(x.done.Batch, 0xEE)
	spoil(x.done.Out, route.Out{Worker: -9})
	spoil(x.ids, -9)
}

// calls are one of each act, of the first graph's numbers.
func calls() []asked {
	return []asked{send(0, at(1), rec(1, 1), 9), advance(0, at(2)), shut(0), take(13), clone(1), lower(1, at(3)), drop(1), emit(1, at(4), rec(1, 1), 9), run(5, 9), step(9)}
}

func isNobody(t *testing.T, w *Worker) {
	t.Helper()
	for range 2 {
		for _, c := range append(calls(), send(-1, at(1, 1), rec(0, 0), -1), take(0), take(-1), run(math.MaxInt, 0), step(-1), drop(math.MinInt)) {
			if x := c.of(w); !x.same(told{}) || x.done.Out != nil {
				t.Errorf("%v = %v", c, x)
			}
		}
		for _, m := range []api.Message{{}, msg(-1, at(), 0, 0), msg(0, at(1, 1, 1), 1, 1)} {
			if e := w.Pass(m); e != api.OK {
				t.Errorf("Pass(%v) = %d", m, e)
			}
		}
		for _, b := range [][]byte{nil, {}, {0}, {1}, put(t, ch(0, 1, 0)), put(t, ch(191, most, last))} {
			if err := w.Hear(b); err != nil {
				t.Errorf("Hear(% x) = %v", b, err)
			}
		}
		for _, n := range []int{0, 1, -1, 191, math.MaxInt, math.MinInt} {
			epoch, open := w.Epoch(n)
			if len(w.Front(n)) != 0 || w.Open(n, at(last, last, last)) || epoch != at() || open || w.Waiting(n) != 0 || len(w.Caught(n)) != 0 {
				t.Errorf("it tells something of %d", n)
			}
		}
		if len(w.Counts()) != 0 || len(w.Tokens()) != 0 || len(w.Held()) != 0 || w.Copy() != nil {
			t.Error("it tells something")
		}
	}
}

func TestANilOne(t *testing.T) { // P1
	isNobody(t, nil)
	// What New answers beside an error may be asked, too.
	w, _ := New(nil, 1, 0)
	isNobody(t, w)
	w, _ = New(made(t, summed()), 0, 0)
	isNobody(t, w)
	w, _ = New(made(t, stands()), 1, 0)
	isNobody(t, w)
}

func TestOneThatNewDidNotMake(t *testing.T) { // P1: no answer of it is promised, but that each call ends without a panic
	for _, w := range []*Worker{{}, new(Worker).Copy(), new(Worker)} {
		for _, c := range append(calls(), take(0), clone(0), drop(0)) {
			c.of(w)
		}
		for _, b := range [][]byte{nil, {0}, {1}, put(t, ch(0, 1, 0))} {
			w.Hear(b)
		}
		w.Pass(api.Message{})
		answersOf(w)
		spoilAnswers(w)
		answersOf(w.Copy())
	}
}

// several are some workers behind acts, of all kinds of nodes.
func several(t *testing.T) []*Worker {
	full := alone(t, kinds())
	for place := range 15 {
		full.Pass(msg(place, at(1), 7, 5))
		full.Pass(msg(place, at(2), 7, 5))
	}
	step(wide).of(full)
	take(13).of(full)
	clone(2).of(full)
	rest := full.Copy()
	for place := range 15 {
		rest.Pass(msg(place, at(1), 8, 1))
	}
	late := begin(t, draws.Busy(), 3, 1)
	for i := range uint64(30) {
		send(5, at(i%3, i%2), rec(i, i), wide).of(late)
		send(7, at(i%3, i%2), rec(i, i), wide).of(late)
		if i%4 == 0 {
			step(wide).of(late)
		}
	}
	return []*Worker{alone(t, summed()), full, rest, late, begin(t, draws.Rounds(), 8, 7), begin(t, api.Graph{Arity: 3}, 1, 0)}
}

func TestWhatIsToldIsNewMemory(t *testing.T) { // P2, P3
	for i, w := range several(t) {
		kept := answersOf(w)
		held, tokens, counts := w.Held(), w.Tokens(), w.Counts()
		text := fmt.Sprint(held, tokens, counts)
		spoilAnswers(w)
		if answersOf(w) != kept || !alike(w, w.Copy()) {
			t.Errorf("%d: what is written over is seen", i)
		}
		if fmt.Sprint(held, tokens, counts) != text {
			t.Errorf("%d: an answer is seen in another one", i)
		}
		// Nor does it see what comes later.
		for _, c := range calls() {
			c.of(w)
		}
		step(wide).of(w)
		if fmt.Sprint(held, tokens, counts) != text {
			t.Errorf("%d: an answer saw what came later", i)
		}
	}
}

func TestWhatAnActAnswersIsNewMemory(t *testing.T) { // P2
	for i, w := range several(t) {
		for _, node := range []int{0, 2, 5} {
			for _, c := range append(calls(), run(node, wide), step(wide), send(node, at(5, 5), rec(3, 3), wide), take(node+8)) {
				v := w.Copy()
				x := c.of(w)
				batch, out, ids := bytes.Clone(x.done.Batch), slices.Clone(x.done.Out), slices.Clone(x.ids)
				y := c.of(v)
				x.spoil()
				if !bytes.Equal(y.done.Batch, batch) || !slices.Equal(y.done.Out, out) || !slices.Equal(y.ids, ids) {
					t.Errorf("%d: an answer of %v is seen in that of a copy", i, c)
				}
				if answersOf(w) != answersOf(v) || !alike(w, v) {
					t.Fatalf("%d: what %v answered is written over, and it is seen", i, c)
				}
			}
		}
	}
}

func TestBytesHandedInStayAsTheyWere(t *testing.T) { // P2
	room := append(put(t, ch(0, -1, 0), ch(0, 1, 300), ch(1, 3, 5)), 7, 7, 7)
	was := bytes.Clone(room)
	w := alone(t, summed())
	for many := range len(room) + 1 {
		err := w.Hear(room[:many])
		if !bytes.Equal(room, was) || (err == nil) != (many == 0 || many == len(room)-3) {
			t.Fatalf("of %d bytes: %v, they are % x", many, err, room)
		}
	}
	kept := answersOf(w)
	clear(room)
	if answersOf(w) != kept {
		t.Error("bytes that are written over are seen")
	}
	counts(t, w, ch(0, 1, 300), ch(1, 3, 5))
	// A batch of one worker is heard by another one, and then written over.
	v := alone(t, summed())
	x := advance(0, at(4)).of(v)
	if err := w.Hear(x.done.Batch); err != nil {
		t.Error(err)
	}
	x.spoil()
	counts(t, w, ch(0, -1, 0), ch(0, 1, 4), ch(0, 1, 300), ch(1, 3, 5))
}

func TestTwoHaveNothingToDoWithEachOther(t *testing.T) { // P5
	g := made(t, summed())
	w, _ := New(g, 2, 0)
	v, _ := New(g, 2, 1)
	kept := answersOf(v)
	for _, c := range calls() {
		c.of(w)
	}
	w.Pass(msg(1, at(), 1, 1))
	hears(t, w, ch(0, -1, 0))
	step(wide).of(w)
	if answersOf(v) != kept {
		t.Error("another one is seen")
	}
}

func TestCopyAndThenCalls(t *testing.T) { // P25.9, P5
	comes := func(w *Worker) {
		for place := range 15 {
			w.Pass(msg(place, at(3), 1, 1))
		}
		w.Hear(put(t, ch(0, 1, 0)))
	}
	for i, w := range several(t) {
		kept := answersOf(w)
		fresh := func() *Worker { return several(t)[i] }
		var l []func(w *Worker)
		for _, c := range append(calls(), step(wide), drop(3), send(5, at(3, 3), rec(1, 1), 9)) {
			l = append(l, func(w *Worker) { c.of(w) })
		}
		for _, one := range append(l, comes) {
			w := fresh()
			c := w.Copy()
			if c == w || answersOf(c) != kept {
				t.Fatalf("%d: the copy tells something else", i)
			}
			one(w)
			if answersOf(c) != kept {
				t.Errorf("%d: the copy saw it", i)
			}
			d := c.Copy()
			one(d)
			comes(c)
			step(wide).of(c)
			x := fresh()
			one(x)
			if !alike(w, x) || !alike(d, x) {
				t.Errorf("%d: a copy is seen, or answers otherwise", i)
			}
		}
	}
}

func TestBothGoOnWithTheSameNumber(t *testing.T) { // P25.9
	w := alone(t, starting())
	for range 4 {
		clone(1).of(w)
	}
	drop(5).of(w)
	c := w.Copy()
	for range 2 {
		for id := 6; id < 9; id++ {
			mints(t, does(t, w, clone(1), ch(0, 1, 0)), api.Message{}, id)
		}
		w = c
	}
	is(t, "Held", w.Held(), held(1, 0, 0), held(2, 0, 0), held(3, 0, 0), held(4, 0, 0), held(6, 0, 0), held(7, 0, 0), held(8, 0, 0))
}

func TestManyAskAtOnce(t *testing.T) { // P3, P5: asking writes nothing, so many may ask one
	for _, w := range several(t) {
		kept := answersOf(w)
		var group sync.WaitGroup
		for range 8 {
			group.Go(func() {
				c := w.Copy()
				for _, x := range calls() {
					x.of(c)
				}
				if answersOf(w) != kept {
					t.Error("many who ask are told otherwise")
				}
			})
		}
		group.Wait()
		if answersOf(w) != kept {
			t.Error("what was done to the copies is seen")
		}
	}
}

func TestCopiesGoOnApart(t *testing.T) { // P25.9, P5: drawn scripts on both
	for seed := range uint64(150) {
		next := draws.Numbers(seed)
		raw := draws.Lively(next)
		crowds := []*crowd{crowdOf(t, raw, 1+next(3), next, map[string]int{})}
		for range 150 {
			c := crowds[next(len(crowds))]
			if len(crowds) < 4 && next(30) == 0 {
				crowds = append(crowds, c.copied())
			}
			c.goesOn(t, 4)
		}
		for _, c := range crowds {
			for _, x := range c.pairs {
				x.holds(t)
			}
		}
		// The same from here on brings the same.
		c := crowds[0]
		d := c.copied()
		c.next, d.next = draws.Numbers(seed), draws.Numbers(seed)
		for range 30 {
			c.goesOn(t, 4)
			d.goesOn(t, 4)
		}
		for i, x := range c.pairs {
			if answersOf(x.w) != answersOf(d.pairs[i].w) {
				t.Error("the copy goes on otherwise")
			}
		}
		if t.Failed() {
			t.Fatalf("seed %d: %v", seed, raw)
		}
	}
}
