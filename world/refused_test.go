package world

import (
	"math"
	"slices"
	"testing"

	"sluice/api"
)

// acted is a world of two workers of the graph of all kinds, behind some acts: all links have something on them, at each worker a message waits at the free node, worker 1's input is closed, worker 0's is at 3. Worker 0 holds the capabilities 1 at 0 and 2 at 4, worker 1 the capability 1.
func acted(t *testing.T) *World {
	t.Helper()
	w := begin(t, kinds(), 2)
	for self := range 2 {
		for to := range 2 {
			does(t, w, send(self, 0, at(2), rec(keyOf(to, 2, 0), 7)), ch(1, 1, 2), ch(13, 1, 2))
			does(t, w, send(self, 0, at(5), rec(keyOf(to, 2, 1), 8)), ch(1, 1, 5), ch(13, 1, 5))
		}
	}
	does(t, w, shut(1, 0), ch(0, -1, 0))
	does(t, w, advance(0, 0, at(3)), ch(0, -1, 0), ch(0, 1, 3))
	mints(t, does(t, w, take(0, 13), ch(13, -1, 2), ch(14, 1, 2)), msg(13, at(2), rec(keyOf(0, 2, 0), 7)), 2)
	does(t, w, lower(0, 2, at(4)), ch(14, -1, 2), ch(14, 1, 4))
	does(t, w, step(1), ch(1, -2, 2), ch(1, -2, 5), ch(10, 1, 2), ch(10, 1, 5), ch(11, 1, 2), ch(11, 1, 5))
	return w
}

// noNumbers are such as are no worker's of two, no node's, no place's and no capability's.
func noNumbers() []int { return []int{-1, -2, 99, 192, math.MaxInt, math.MinInt} }

func TestKindsThatAreNone(t *testing.T) { // P26.2, P4: ahead of all others
	w := acted(t)
	for _, kind := range []int{0, 13, -1, 14, 255, math.MaxInt, math.MinInt} {
		for _, a := range []Act{{}, {W: 1, From: 1}, {W: -1, From: -1, N: -1}, {W: 9, T: at(0, 1)}, {From: 1}} {
			a.Kind = kind
			refuses(t, w, a, api.ErrArg)
		}
	}
}

func TestWorkersThatAreNone(t *testing.T) { // P26.2, P4: ahead of what the worker's act is refused by
	for workers := 1; workers <= 3; workers += 2 {
		w := begin(t, kinds(), workers)
		for _, n := range append(noNumbers(), workers) {
			for kind := Send; kind <= Pass; kind++ {
				for _, a := range []Act{{}, {N: -1, T: at(0, 1)}, {From: n}, {From: -5}} {
					a.Kind, a.W = kind, n
					refuses(t, w, a, api.ErrWorker)
				}
			}
			refuses(t, w, hear(0, n), api.ErrWorker)
			refuses(t, w, pass(workers-1, n), api.ErrWorker)
		}
		for self := range workers {
			refuses(t, w, hear(self, self), api.ErrWorker)
			refuses(t, w, pass(self, self), api.ErrWorker)
		}
	}
}

func TestLinksOnWhichNothingIs(t *testing.T) { // P26.2
	w := begin(t, trapped(), 3)
	for self := range 3 {
		for from := range 3 {
			if self != from {
				refuses(t, w, hear(self, from), api.ErrEmpty)
				refuses(t, w, pass(self, from), api.ErrEmpty)
			}
		}
	}
	// A batch is no message, and the other way round; nor is it on the link that leads back.
	does(t, w, advance(0, 0, at(1)), ch(0, -1, 0), ch(0, 1, 1))
	refuses(t, w, pass(1, 0), api.ErrEmpty)
	refuses(t, w, hear(0, 1), api.ErrEmpty)
	refuses(t, w, hear(1, 2), api.ErrEmpty)
	does(t, w, hear(1, 0), ch(0, -1, 0), ch(0, 1, 1))
	refuses(t, w, hear(1, 0), api.ErrEmpty)
	does(t, w, hear(2, 0), ch(0, -1, 0), ch(0, 1, 1))
	r := rec(keyOf(2, 3, 0), 1)
	does(t, w, send(1, 0, at(), r), ch(1, 1, 0))
	does(t, w, hear(2, 1), ch(1, 1, 0))
	refuses(t, w, hear(2, 1), api.ErrEmpty)
	passes(t, w, pass(2, 1), msg(1, at(), r))
	refuses(t, w, pass(2, 1), api.ErrEmpty)
	refuses(t, w, pass(0, 1), api.ErrEmpty)
	does(t, w, hear(0, 1), ch(1, 1, 0))
}

func TestInputsRefuse(t *testing.T) { // P26.2: what Send, Advance and Close are refused by, the first where several apply
	w := acted(t)
	misfit, early := at(9, 1), at(2)
	for _, node := range append(noNumbers(), 1, 2, 3, 4, 5, 6, 7, 8) {
		for self := range 2 {
			refuses(t, w, send(self, node, misfit, rec(1, 1)), api.ErrNode)
			refuses(t, w, advance(self, node, misfit), api.ErrNode)
			refuses(t, w, shut(self, node), api.ErrNode)
		}
	}
	for self := range 2 {
		for _, u := range []api.Time{misfit, at(0, 1), at(5, 0, 1), at(last, last, last)} {
			refuses(t, w, send(self, 0, u, rec(1, 1)), api.ErrArity)
			refuses(t, w, advance(self, 0, u), api.ErrArity)
		}
	}
	for _, u := range []api.Time{at(), early, at(9)} {
		refuses(t, w, send(1, 0, u, rec(1, 1)), api.ErrClosed)
		refuses(t, w, advance(1, 0, u), api.ErrClosed)
	}
	refuses(t, w, shut(1, 0), api.ErrClosed)
	for _, u := range []api.Time{at(), early} {
		refuses(t, w, send(0, 0, u, rec(1, 1)), api.ErrEpoch)
		refuses(t, w, advance(0, 0, u), api.ErrEpoch)
	}
	does(t, w, advance(0, 0, at(3)))
	does(t, w, send(0, 0, at(3), rec(keyOf(0, 2, 0), 1)), ch(1, 1, 3), ch(13, 1, 3))
}

func TestFreeNodesRefuse(t *testing.T) { // P26.2: what Take, Clone, Lower, Drop and Emit are refused by
	w := acted(t)
	for _, place := range append(noNumbers(), 0, 1, 2, 3, 4, 5, 6, 7, 8, 9, 10, 11, 12, 14, 15) {
		refuses(t, w, take(0, place), api.ErrPlace)
	}
	for _, id := range append(noNumbers(), 0, 3) {
		refuses(t, w, clone(0, id), api.ErrCap)
		refuses(t, w, drop(0, id), api.ErrCap)
		refuses(t, w, lower(0, id, at(0, 1)), api.ErrCap)
		refuses(t, w, emit(0, id, at(0, 1), rec(1, 1)), api.ErrCap)
	}
	// Worker 0's second one is none of worker 1.
	refuses(t, w, clone(1, 2), api.ErrCap)
	for _, u := range []api.Time{at(0, 1), at(9, 1), at(9, 0, 1)} {
		refuses(t, w, lower(0, 2, u), api.ErrArity)
		refuses(t, w, emit(0, 2, u, rec(1, 1)), api.ErrArity)
	}
	for _, u := range []api.Time{at(), at(3)} {
		refuses(t, w, lower(0, 2, u), api.ErrBack)
		refuses(t, w, emit(0, 2, u, rec(1, 1)), api.ErrBack)
	}
	does(t, w, drop(0, 2), ch(14, -1, 4))
	for _, a := range []Act{clone(0, 2), drop(0, 2), lower(0, 2, at(5)), emit(0, 2, at(5), rec(1, 1))} {
		refuses(t, w, a, api.ErrCap)
	}
	// What isn't on the way yet, or is at the other worker, is not taken.
	none := begin(t, kinds(), 2)
	refuses(t, none, take(0, 13), api.ErrEmpty)
	does(t, none, send(0, 0, at(2), rec(keyOf(1, 2, 0), 7)), ch(1, 1, 2), ch(13, 1, 2))
	refuses(t, none, take(0, 13), api.ErrEmpty)
	refuses(t, none, take(1, 13), api.ErrEmpty)
	does(t, none, pass(1, 0))
	refuses(t, none, take(0, 13), api.ErrEmpty)
	does(t, none, take(1, 13), ch(13, -1, 2), ch(14, 1, 2))
	refuses(t, none, take(1, 13), api.ErrEmpty)
}

func TestAllCapabilitiesAreHeld(t *testing.T) { // P26.2: ErrFull of Take and Clone
	w := begin(t, kinds(), 2)
	for id := 2; id <= api.MaxCaps; id++ {
		if x := clone(0, 1).of(w); x.e != api.OK || !slices.Equal(x.IDs, []int{id}) {
			t.Fatalf("Clone = %v", x)
		}
	}
	refuses(t, w, clone(0, 1), api.ErrFull)
	refuses(t, w, clone(0, 999), api.ErrCap)
	refuses(t, w, take(0, 13), api.ErrEmpty)
	does(t, w, send(0, 0, at(2), rec(keyOf(0, 2, 0), 7)), ch(1, 1, 2), ch(13, 1, 2))
	refuses(t, w, take(0, 13), api.ErrFull)
	refuses(t, w, take(0, 12), api.ErrPlace)
	// The other worker's are its own.
	mints(t, does(t, w, clone(1, 1), ch(14, 1, 0)), api.Message{}, 2)
	does(t, w, drop(0, 77), ch(14, -1, 0))
	mints(t, does(t, w, take(0, 13), ch(13, -1, 2), ch(14, 1, 2)), msg(13, at(2), rec(keyOf(0, 2, 0), 7)), api.MaxCaps+1)
	refuses(t, w, clone(0, 1), api.ErrFull)
}

func TestRunRefuses(t *testing.T) { // P26.2
	w := acted(t)
	for _, node := range append(noNumbers(), 0, 7, 8) {
		refuses(t, w, run(0, node), api.ErrNode)
	}
	for node := 1; node <= 6; node++ {
		if x := run(1, node).of(w.Copy()); x.e != api.OK {
			t.Errorf("%d is run: %v", node, x)
		}
	}
}

// eachKind is an act of each kind that is done in the world behind acts, but for those that would be no acts of it.
func eachKind() []Act {
	return []Act{
		send(0, 0, at(3), rec(1, 1)), advance(0, 0, at(4)), shut(0, 0), take(1, 13), clone(0, 2), lower(0, 2, at(6)), drop(0, 1), emit(0, 2, at(5), rec(1, 1)), run(0, 1), step(0), hear(0, 1), pass(1, 0),
	}
}

// oddActs write over all that a kind may not use.
func oddActs() []Act {
	return []Act{
		{N: -1, From: -1, T: at(0, 1), R: rec(1, 1)}, {N: math.MaxInt, From: math.MaxInt, T: at(last, last, last), R: rec(last, last)}, {N: math.MinInt, From: math.MinInt, T: at(7), R: rec(7, 7)},
		{N: 1, From: 1, T: at(5), R: rec(0, 1)}, {N: 13, From: 2, T: at(1, 1, 1), R: rec(3, 0)}, {},
	}
}

func TestWhatAKindDoesNotUseIsNotLookedAt(t *testing.T) { // P26.2
	w := acted(t)
	l := eachKind()
	for i, a := range l {
		if a.Kind != i+1 {
			t.Fatalf("%v is no act of the kind %d", a, i+1)
		}
		plain := w.Copy()
		want := a.of(plain)
		if want.e != api.OK {
			t.Fatalf("%v = %v", a, want)
		}
		for _, odd := range oddActs() {
			v, b := w.Copy(), littered(a, odd)
			if x := b.of(v); !x.same(want) || !alike(v, plain) {
				t.Errorf("%v = %v, want that of %v: %v", b, x, a, want)
			}
		}
	}
	// Nor in one that is refused.
	for _, c := range []struct {
		a Act
		e api.Errno
	}{
		{send(0, 1, at(), rec(1, 1)), api.ErrNode}, {advance(0, 0, at(1)), api.ErrEpoch}, {shut(1, 0), api.ErrClosed}, {take(0, 12), api.ErrPlace}, {clone(1, 2), api.ErrCap}, {lower(0, 2, at()), api.ErrBack},
		{drop(0, 9), api.ErrCap}, {emit(0, 2, at(0, 1), rec(1, 1)), api.ErrArity}, {run(0, 0), api.ErrNode}, {step(2), api.ErrWorker}, {hear(1, 1), api.ErrWorker}, {pass(0, 2), api.ErrWorker},
	} {
		for _, odd := range oddActs() {
			refuses(t, w, littered(c.a, odd), c.e)
		}
	}
}

func TestARefusedActIsNotHeardOf(t *testing.T) { // P26.2, P6: drawn scripts with refused acts in between are the same as without them
	for _, a := range []Act{send(0, 0, at(2), rec(1, 1)), take(0, 1), emit(1, 1, at(0, 1), rec(1, 1)), {Kind: 13}, {Kind: Step, W: 2}, hear(0, 0)} {
		w, v := acted(t), acted(t)
		for range 3 {
			if x := a.of(w); x.e == api.OK {
				t.Fatalf("%v = %v", a, x)
			}
		}
		if !alike(w, v) {
			t.Errorf("%v was refused, and has changed something", a)
		}
		for _, b := range eachKind() {
			if x, y := b.of(w), b.of(v); !x.same(y) {
				t.Errorf("%v = %v, want %v", b, x, y)
			}
			a.of(w)
		}
		if !alike(w, v) {
			t.Errorf("%v was refused, and has changed something", a)
		}
	}
}
