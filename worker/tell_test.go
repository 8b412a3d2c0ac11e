package worker

import (
	"math"
	"testing"

	"sluice/draws"
)

func TestTokens(t *testing.T) { // P25.7
	// Places: the input's 0; the sum's 1 2; the free node's 3 4 in, 5 6 out; the probe's 7.
	g := nodes(input(), sum(), free(true, 2, 2), trap())
	w := begin(t, g, 2, 1)
	passes(t, w, msg(1, at(3), 1, 1), msg(1, at(2), 1, 1), msg(1, at(3), 2, 2), msg(7, at(), 0, 0), msg(4, at(8), 1, 1), msg(3, at(9), 1, 1))
	clone(1).of(w)
	lower(2, at(4)).of(w)
	advance(0, at(6)).of(w)
	tokens(t, w, ch(0, 1, 6), ch(1, 1, 2), ch(1, 2, 3), ch(3, 1, 9), ch(4, 1, 8), ch(5, 2, 0), ch(6, 1, 4), ch(7, 1, 0))
	// Of the sum two times are told by nobody: the other worker's input holds them.
	hears(t, w, ch(1, 3, 3))
	hears(t, w, ch(1, 3, 2))
	does(t, w, run(1, 9), ch(1, -1, 2), ch(1, -2, 3), ch(2, 1, 2), ch(2, 1, 3))
	tokens(t, w, ch(0, 1, 6), ch(2, 1, 2), ch(2, 1, 3), ch(3, 1, 9), ch(4, 1, 8), ch(5, 2, 0), ch(6, 1, 4), ch(7, 1, 0))
}

func TestNumbersThatAreNone(t *testing.T) { // P25.7
	w := alone(t, kinds())
	for place := range 15 {
		w.Pass(msg(place, at(), 1, 1))
	}
	step(wide).of(w)
	for _, place := range []int{-1, 15, 16, 191, 192, math.MaxInt, math.MinInt} {
		fronts(t, w, place)
		waits(t, w, place, 0)
		if w.Open(place, at()) || w.Open(place, at(last, last, last)) {
			t.Errorf("something is open at %d", place)
		}
	}
	for _, place := range []int{0, 2, 4, 7, 9, 11, 14} {
		waits(t, w, place, 0)
	}
	for _, node := range append(others(8), 1, 2, 3, 4, 5, 6, 7) {
		if epoch, open := w.Epoch(node); epoch != at() || open {
			t.Errorf("Epoch(%d) = %v, %v", node, epoch, open)
		}
	}
	for _, node := range append(others(8), 0, 1, 2, 3, 4, 5, 7) {
		catches(t, w, node)
	}
	catches(t, w, 6, caught(at(), 1, 1))
}

func TestFrontAndOpenAreTheViews(t *testing.T) { // P25.7
	w := begin(t, draws.Ring(), 2, 0)
	for place := range 7 {
		want := at()
		if place == 2 || place == 5 {
			want = at(1)
		}
		fronts(t, w, place, want)
		if !w.Open(place, want) || !w.Open(place, at(1, 7)) || w.Open(place, at()) != (want == at()) {
			t.Errorf("Open(%d, ..) is not by the front %v", place, want)
		}
	}
	shut(0).of(w)
	fronts(t, w, 6, at())
	hears(t, w, ch(0, -1, 0), ch(4, 1, 3))
	fronts(t, w, 0)
	fronts(t, w, 1)
	fronts(t, w, 4, at(3))
	for _, place := range []int{2, 3, 5, 6} {
		fronts(t, w, place, at(4))
	}
	// A message that came by Pass alone is unknown to the view.
	passes(t, w, msg(6, at(1), 1, 1))
	fronts(t, w, 6, at(4))
	if w.Open(6, at(3)) || !w.Open(6, at(4)) {
		t.Error("Open of the probe")
	}
}

func TestWaitingAtEachPlace(t *testing.T) { // P25.7
	w := alone(t, kinds())
	for i, place := range []int{1, 3, 5, 6, 8, 10, 12, 13} {
		for range i {
			passes(t, w, msg(place, at(), 1, 1))
		}
		waits(t, w, place, i)
	}
	step(wide).of(w)
	for _, place := range []int{1, 3, 5, 6, 8, 10, 12} {
		waits(t, w, place, 0)
	}
	waits(t, w, 13, 7)
}
