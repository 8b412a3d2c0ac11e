package world

import (
	"fmt"
	"testing"

	"sluice/api"
	"sluice/draws"
	"sluice/paths"
)

// busyLinks are the links on which there are batches, in their order.
func busyLinks(w *World) [][2]int {
	var l [][2]int
	for from := range w.Workers() {
		for to := range w.Workers() {
			if w.Batches(from, to) > 0 {
				l = append(l, [2]int{from, to})
			}
		}
	}
	return l
}

// hearsAll lets batches be heard till there is none, each time from the link that is picked: how many there were.
func hearsAll(t *testing.T, w *World, pick func(l [][2]int) [2]int) int {
	t.Helper()
	for many := 0; ; many++ {
		l := busyLinks(w)
		if len(l) == 0 {
			return many
		}
		link := pick(l)
		if x := hear(link[1], link[0]).of(w); x.e != api.OK || len(x.Changes) == 0 {
			t.Fatalf("hearing from %d to %d: %v", link[0], link[1], x)
		}
	}
}

// onAllLinks is how many batches are on links.
func onAllLinks(w *World) int {
	many := 0
	for _, link := range busyLinks(w) {
		many += w.Batches(link[0], link[1])
	}
	return many
}

// exact holds that each view has the global counts, and each front is that of the tokens.
func exact(t *testing.T, w *World, table *paths.Table) {
	t.Helper()
	var stamps []api.Stamp
	for _, c := range w.Tokens() {
		stamps = append(stamps, c.S)
	}
	for self := range w.Workers() {
		counts(t, w, self, w.Tokens()...)
		for place := range table.Places() {
			fronts(t, w, self, place, table.Front(place, stamps...)...)
		}
	}
}

func TestDrawnHearingsMakeItExact(t *testing.T) { // P7
	most := 0
	for seed := range uint64(150) {
		next := draws.Numbers(seed)
		raw := draws.Lively(next)
		x := playOf(t, raw, 1+next(api.MaxWorkers), next, map[string]int{})
		for range 100 {
			x.goesOn(t)
		}
		many := onAllLinks(x.w)
		most = max(most, many)
		global, messages := x.w.Tokens(), x.w.Outstanding()
		for i, pick := range []func(l [][2]int) [2]int{
			func(l [][2]int) [2]int { return l[0] },
			func(l [][2]int) [2]int { return l[len(l)-1] },
			func(l [][2]int) [2]int { return l[next(len(l))] },
			func(l [][2]int) [2]int { return l[next(len(l))] },
		} {
			w := x.w.Copy()
			number(t, fmt.Sprint("order ", i, ": hearings"), hearsAll(t, w, pick), many)
			exact(t, w, x.p.table)
			tokens(t, w, global...)
			number(t, "outstanding", w.Outstanding(), messages)
			for from := range w.Workers() {
				for to := range w.Workers() {
					number(t, "messages", w.Messages(from, to), x.w.Messages(from, to))
					if x := hear(to, from).of(w); from != to && !x.same(told{e: api.ErrEmpty}) {
						t.Errorf("one hearing more from %d to %d: %v", from, to, x)
					}
				}
			}
		}
		if t.Failed() {
			t.Fatalf("seed %d: %v", seed, raw)
		}
	}
	if most < 100 {
		t.Errorf("drawn: at most %d batches are on links", most)
	}
}

func TestAnActIsHeardWhole(t *testing.T) { // P26.4: what an act told is what each other worker hears of it, link by link first in, first out
	w := begin(t, summed(), 3)
	var said [3][][]api.Change
	for i := range uint64(20) {
		for self := range 3 {
			said[self] = append(said[self], advance(self, 0, at(i+1)).of(w).Changes)
		}
	}
	for self := range 3 {
		for from := range 3 {
			if from == self {
				continue
			}
			for left := len(said[from]); left > 0; left-- {
				onLink(t, w, from, self, left, 0)
				does(t, w, hear(self, from), said[from][len(said[from])-left]...)
			}
			onLink(t, w, from, self, 0, 0)
		}
	}
	for self := range 3 {
		counts(t, w, self, ch(0, 3, 20))
	}
}

func TestHearingInTurns(t *testing.T) { // P26.4: each link is by itself
	w := begin(t, summed(), 3)
	does(t, w, advance(0, 0, at(5)), ch(0, -1, 0), ch(0, 1, 5))
	does(t, w, advance(1, 0, at(6)), ch(0, -1, 0), ch(0, 1, 6))
	does(t, w, advance(0, 0, at(7)), ch(0, -1, 5), ch(0, 1, 7))
	does(t, w, hear(2, 1), ch(0, -1, 0), ch(0, 1, 6))
	does(t, w, hear(2, 0), ch(0, -1, 0), ch(0, 1, 5))
	does(t, w, hear(1, 0), ch(0, -1, 0), ch(0, 1, 5))
	does(t, w, advance(1, 0, at(8)), ch(0, -1, 6), ch(0, 1, 8))
	does(t, w, hear(2, 0), ch(0, -1, 5), ch(0, 1, 7))
	does(t, w, hear(2, 1), ch(0, -1, 6), ch(0, 1, 8))
	refuses(t, w, hear(2, 0), api.ErrEmpty)
	onLink(t, w, 0, 1, 1, 0)
	onLink(t, w, 1, 0, 2, 0)
	onLink(t, w, 2, 0, 0, 0)
	onLink(t, w, 0, 2, 0, 0)
	counts(t, w, 2, ch(0, 1, 0), ch(0, 1, 7), ch(0, 1, 8))
	fronts(t, w, 2, 3, at())
	does(t, w, shut(2, 0), ch(0, -1, 0))
	fronts(t, w, 2, 3, at(7))
}

func TestOnesOwnIsKnownAtOnce(t *testing.T) { // P26.3: and put on the links to all others, if there is any
	for workers := 1; workers <= api.MaxWorkers; workers++ {
		w := begin(t, kinds(), workers)
		batches := make([]int, workers)
		for _, c := range []struct {
			a    Act
			want []api.Change
		}{
			{send(0, 0, at(1), rec(keyOf(0, workers, 0), 0)), []api.Change{ch(1, 1, 1), ch(13, 1, 1)}},
			{advance(workers-1, 0, at(2)), []api.Change{ch(0, -1, 0), ch(0, 1, 2)}},
			{advance(workers-1, 0, at(2)), nil},
			{lower(0, 1, at()), nil},
			{take(0, 13), []api.Change{ch(13, -1, 1), ch(14, 1, 1)}},
			{clone(0, 2), []api.Change{ch(14, 1, 1)}},
			{lower(0, 2, at(3)), []api.Change{ch(14, -1, 1), ch(14, 1, 3)}},
			{emit(0, 2, at(3), rec(1, 1)), []api.Change{ch(12, 1, 3)}},
			{drop(0, 3), []api.Change{ch(14, -1, 1)}},
			{run(0, 6), []api.Change{ch(12, -1, 3)}},
			{run(0, 6), nil},
			{shut(workers-1, 0), []api.Change{ch(0, -1, 2)}},
		} {
			does(t, w, c.a, c.want...)
			if len(c.want) > 0 {
				batches[c.a.W]++
			}
			for from := range workers {
				for to := range workers {
					want := batches[from]
					if from == to {
						want = 0
					}
					number(t, fmt.Sprint(c.a, ": batches from ", from, " to ", to), w.Batches(from, to), want)
				}
			}
		}
		safe(t, w)
	}
}

func TestAStepThatLeavesNothingIsNotHeardOf(t *testing.T) { // P26.3: it is its whole that counts
	// A map whose records the probe takes in the same step, and a map without edges behind a free node that holds what it emits.
	g := row(free(true, 0, 1), mapper(), trap())
	w := begin(t, g, 2)
	does(t, w, emit(0, 1, at(), rec(1, 1)), ch(1, 1, 0))
	does(t, w, step(0), ch(1, -1, 0))
	does(t, w, step(0))
	does(t, w, step(1))
	onLink(t, w, 0, 1, 2, 0)
	onLink(t, w, 1, 0, 0, 0)
	// A free node without edges lets all go.
	w = begin(t, nodes(free(true, 0, 1)), 2)
	does(t, w, emit(1, 1, at(4), rec(1, 1)))
	onLink(t, w, 1, 0, 0, 0)
}
