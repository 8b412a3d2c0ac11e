package rest

import (
	"fmt"
	"math"
	"slices"
	"testing"

	"sluice/api"
	"sluice/asks"
	"sluice/draws"
	"sluice/world"
)

// drawnPicks are some numbers of all kinds.
func drawnPicks(next func(below int) int, most int) []int {
	var l []int
	for range next(most) {
		l = append(l, []int{next(9), next(2000), -next(9), -next(2000), math.MaxInt - next(9), math.MinInt + next(9)}[next(6)])
	}
	return l
}

// drawnWorld is one behind some acts.
func drawnWorld(t *testing.T, next func(below int) int, raw api.Graph, acts int) *world.World {
	t.Helper()
	w := begin(t, raw, []int{1, 2, 3, 4, api.MaxWorkers}[next(5)])
	asks.Goes(next, w, next(acts))
	return w
}

// relay is two inputs 0 and 1, two maps behind them in a row, and a free node behind all of it: which of the messages from several workers comes first is seen only rounds later.
func relay() api.Graph {
	g := graphOf(1, []api.Edge{keyed(0, 2), keyed(1, 2), keyed(2, 3), edge(2, 4), keyed(3, 4)}, input(), input(), mapper(), mapper(), free(false, 2, 0))
	g.Edges[4].In = 1
	g.Nodes[2].Code = []api.Op{{Kind: 1, Arg: 3}}
	return g
}

// anyGraph is one of all kinds.
func anyGraph(next func(below int) int) api.Graph {
	switch next(6) {
	case 0:
		return relay()
	case 1:
		return asked()
	}
	return draws.Lively(next)
}

// whirl is a join into which an input and loops of all kinds lead: some of them let a record go round many times.
func whirl(next func(below int) int) api.Graph {
	arity := 1 + next(api.MaxArity)
	g := graphOf(arity, []api.Edge{edge(0, 1)}, input(), join(api.MaxPorts))
	for i := range 1 + next(api.MaxPorts-1) {
		var by [api.MaxArity]uint64
		for k := range arity {
			by[k] = []uint64{0, 0, 0, 0, 1, 2, 7, math.MaxUint64}[next(8)]
		}
		by[next(arity)] |= 1
		g.Nodes = append(g.Nodes, loop(api.Path{A: by[0], B: by[1], C: by[2]}, []uint64{0, 2, 9, 30, api.MaxBound, api.MaxBound}[next(6)]))
		g.Edges = append(g.Edges, edge(1, 2+i), api.Edge{From: 2 + i, To: 1, In: 1 + i})
	}
	return g
}

// unfree is a graph in which much goes on, without free nodes.
func unfree(next func(below int) int) api.Graph {
	for {
		g := draws.Lively(next)
		if !slices.ContainsFunc(g.Nodes, func(n api.Node) bool { return n.Kind == api.KFree }) {
			return g
		}
	}
}

func same(t *testing.T, what string, w, v *world.World) {
	t.Helper()
	if got, want := emptied(w), emptied(v); got != want {
		t.Errorf("%s: it is\n%s, want\n%s", what, got, want)
	}
}

func TestDrawnHearings(t *testing.T) { // P28.1, P28.2; DOC.md, P7
	most := 0
	for seed := range uint64(300) {
		next := draws.Numbers(seed)
		w := drawnWorld(t, next, anyGraph(next), 150)
		v := w.Copy()
		picks := drawnPicks(next, 60)
		on := 0
		for _, link := range onLinks(w, world.Hear) {
			on += len(link)
		}
		want := plainDelivery(v, &given{l: picks}, world.Hear)
		if n := HearAll(w, picks...); n != want || n != on {
			t.Errorf("HearAll = %d, want %d of %d", n, want, on)
		}
		same(t, "all is heard", w, v)
		if !Exact(w) || HearAll(w, picks...) != 0 {
			t.Error("all is heard, and it isn't exact, or there is more")
		}
		most = max(most, on)
		if t.Failed() {
			t.Fatalf("seed %d", seed)
		}
	}
	if most < 100 {
		t.Errorf("drawn: %d batches were on links at most", most)
	}
}

func TestExactAndStillAsTold(t *testing.T) { // P28.2, P28.4
	often := map[string]int{}
	for seed := range uint64(200) {
		next := draws.Numbers(seed)
		w := drawnWorld(t, next, anyGraph(next), 60)
		if next(2) == 0 {
			shuts(t, w)
		}
		for range 8 {
			exact := true
			for self := range w.Workers() {
				exact = exact && fmt.Sprint(w.Counts(self)) == fmt.Sprint(w.Tokens())
			}
			is(t, "drawn", w, exact, plainStill(w))
			often[fmt.Sprint(exact, plainStill(w))]++
			if next(3) > 0 {
				plainDelivery(w, &given{}, world.Hear)
			} else {
				plainRound(w, &given{}, &given{})
			}
		}
		if t.Failed() {
			t.Fatalf("seed %d", seed)
		}
	}
	for _, kind := range []string{"true true", "true false", "false false"} {
		if often[kind] < 50 {
			t.Errorf("drawn: %v", often)
		}
	}
}

func TestDrawnRounds(t *testing.T) { // P28.3
	many := 0
	for seed := range uint64(300) {
		next := draws.Numbers(seed)
		w := drawnWorld(t, next, anyGraph(next), 150)
		v := w.Copy()
		for range 5 {
			deliver, steps := drawnPicks(next, 60), drawnPicks(next, 10)
			links := len(onLinks(w, world.Hear, world.Pass))
			e := Round(w, deliver, steps)
			refused := plainRound(v, &given{l: deliver}, &given{l: steps})
			if e != api.OK || refused {
				t.Errorf("Round = %d, %v", e, refused)
			}
			same(t, fmt.Sprint("picks ", deliver, steps), w, v)
			many = max(many, links)
			if t.Failed() {
				t.Fatalf("seed %d", seed)
			}
		}
	}
	if many < 30 {
		t.Errorf("drawn: %d links had something to give at most", many)
	}
}

func TestDrawnRests(t *testing.T) { // P28.6
	often := map[api.Errno]int{}
	for seed := range uint64(400) {
		next := draws.Numbers(seed)
		w := drawnWorld(t, next, anyGraph(next), 80)
		if next(2) == 0 {
			shuts(t, w)
		}
		v := w.Copy()
		most, picks := next(12), drawnPicks(next, 150)
		n, e, _ := plainRest(v, most, &given{l: picks})
		rounds(t, fmt.Sprint("picks ", picks), w, most, picks, n, e)
		same(t, fmt.Sprint("picks ", picks), w, v)
		often[e]++
		if t.Failed() {
			t.Fatalf("seed %d", seed)
		}
	}
	if often[api.OK] < 50 || often[api.ErrHeavy] < 50 {
		t.Errorf("drawn: %v", often)
	}
}

func TestEnoughAgainstItsWords(t *testing.T) { // P28.5
	often := map[api.Errno]int{}
	most := 0
	for seed := range uint64(600) {
		next := draws.Numbers(seed)
		raw := anyGraph(next)
		acts := 60
		switch next(5) {
		case 0, 1:
			raw = unfree(next)
		case 2, 3:
			raw, acts = whirl(next), 9
		}
		w := drawnWorld(t, next, raw, acts)
		for self := range w.Workers() {
			w.Do(send(self, 0, api.Time{A: uint64(next(70) * next(2))}, api.Record{Key: uint64(next(9))}))
		}
		if next(5) > 0 {
			shuts(t, w)
		}
		d, e := plainEnough(w)
		enough(t, fmt.Sprint(raw), w, d, e)
		often[e]++
		most = max(most, d)
		if t.Failed() {
			t.Fatalf("seed %d", seed)
		}
	}
	if often[api.OK] < 100 || often[api.ErrNode] < 20 || often[api.ErrEpoch] < 20 || often[api.ErrHeavy] < 5 || most < 500 {
		t.Errorf("drawn: %v, the most %d", often, most)
	}
}

func TestItEnds(t *testing.T) { // P28.7, P28.8; DOC.md, P8
	many, caught, longest, full := 0, 0, 0, 0
	for seed := range uint64(200) {
		next := draws.Numbers(seed)
		raw := unfree(next)
		w := drawnWorld(t, next, raw, 120)
		shuts(t, w)
		d, e := Enough(w)
		if e != api.OK {
			continue
		}
		var first [][]api.Caught
		for i := range 4 {
			v, picks := w.Copy(), drawnPicks(next, 200*i)
			if _, _, refused := plainRest(w.Copy(), min(d+1, 400), &given{l: picks}); refused {
				full++
				break
			}
			n, e := Rest(v, d+1, picks...)
			if n > d+1 || e != api.OK || !Still(v) || !Exact(v) || v.Outstanding() != 0 {
				t.Errorf("Rest(%d) = %d, %d; still: %v", d+1, n, e, Still(v))
			}
			var l [][]api.Caught
			for node := range raw.Nodes {
				l = append(l, v.Caught(node))
				caught += len(v.Caught(node))
			}
			if i == 0 {
				first = l
			} else if fmt.Sprint(first) != fmt.Sprint(l) {
				t.Errorf("other picks: caught %v, then %v", first, l)
			}
			was := answersOf(v)
			if e := Round(v, drawnPicks(next, 9), drawnPicks(next, 9)); e != api.OK || answersOf(v) != was {
				t.Errorf("a round of a still world: %d", e)
			}
			longest = max(longest, n)
		}
		many++
		if t.Failed() {
			t.Fatalf("seed %d: %v", seed, raw)
		}
	}
	if many < 100 || caught < 1000 || longest < 10 || full > 10 {
		t.Errorf("drawn: %d came to rest, %d are caught, the most rounds are %d, %d were full", many, caught, longest, full)
	}
}

func TestARoundWithoutTokensChangesNothing(t *testing.T) { // P28.7
	many := 0
	for seed := range uint64(200) {
		next := draws.Numbers(seed)
		w := drawnWorld(t, next, unfree(next), 60)
		shuts(t, w)
		for range 12 {
			Round(w, drawnPicks(next, 30), drawnPicks(next, 9))
		}
		HearAll(w)
		if len(w.Tokens()) > 0 {
			continue
		}
		was := answersOf(w)
		if e := Round(w, drawnPicks(next, 9), drawnPicks(next, 9)); e != api.OK || answersOf(w) != was {
			t.Errorf("seed %d: a round without tokens: %d", seed, e)
		}
		many++
	}
	if many < 50 {
		t.Errorf("drawn: %d only", many)
	}
}
