package world

import (
	"fmt"
	"maps"
	"slices"
	"testing"

	"sluice/api"
	"sluice/draws"
	"sluice/graph"
	"sluice/paths"
)

// safe holds P6 and P26.7: each token counts, and each time to which it could come is open in all views.
func safe(t *testing.T, w *World) {
	t.Helper()
	safeBy(t, w, leastOf(w.Graph()))
}

// leastOf is the least paths of a graph, by the place from which and the one to which they lead.
func leastOf(g *graph.Graph) [][][]api.Path {
	table, _ := paths.New(g)
	l := make([][][]api.Path, g.Places())
	for from := range l {
		for to := range l {
			l[from] = append(l[from], table.Least(from, to))
		}
	}
	return l
}

func safeBy(t *testing.T, w *World, least [][][]api.Path) {
	t.Helper()
	all := w.Tokens()
	for _, c := range all {
		if c.N < 1 {
			t.Errorf("%v tokens at %v", c.N, c.S)
		}
	}
	for self := range w.Workers() {
		for place := range least {
			front := w.Front(self, place)
			for _, c := range all {
				for _, by := range least[c.S.At][place] {
					if u, is := plus(by, c.S.T); is && !isOpen(front, u) {
						t.Errorf("%v could come to %d at %v, which is done for worker %d: %v", c.S, place, u, self, front)
					}
				}
			}
		}
	}
}

// play is a world, what is to be told of it, and what its acts have told.
type play struct {
	next  func(below int) int
	w     *World
	p     plain
	least [][][]api.Path
	way   map[[2]int][][]api.Change // by from and to: the changes that acts answered and that weren't heard yet
	sent  map[int][]api.Caught      // by input
	were  []settled
	often map[string]int // by the act and the number that is answered
}

// settled is what a probe had caught up to the times that were done at a front at its place.
type settled struct {
	node  int
	front []api.Time
	l     []api.Caught
}

func playOf(t *testing.T, raw api.Graph, workers int, next func(below int) int, often map[string]int) *play {
	t.Helper()
	w := begin(t, raw, workers)
	return &play{next: next, w: w, p: plainOf(raw, workers), least: leastOf(w.Graph()), way: map[[2]int][][]api.Change{}, sent: map[int][]api.Caught{}, often: often}
}

// copied is another play of copies.
func (x *play) copied() *play {
	y := *x
	y.w, y.p = x.w.Copy(), x.p.copied()
	y.way, y.sent = maps.Clone(x.way), maps.Clone(x.sent)
	for link, l := range y.way {
		y.way[link] = slices.Clip(l)
	}
	for node, l := range y.sent {
		y.sent[node] = slices.Clip(l)
	}
	y.were = slices.Clip(x.were)
	return &y
}

// does is an act of both.
func (x *play) does(t *testing.T, a Act) told {
	t.Helper()
	want, got := x.p.do(a), a.of(x.w)
	if !got.same(want) {
		t.Errorf("%v = %v, want %v", a, got, want)
	}
	x.often[fmt.Sprint(a.Kind, " ", int(want.e))]++
	if got.e == api.OK {
		x.notes(a, got)
	}
	return want
}

// notes keeps what an act has told.
func (x *play) notes(a Act, got told) {
	switch {
	case a.Kind == Hear:
		x.way[[2]int{a.From, a.W}] = x.way[[2]int{a.From, a.W}][1:]
	case a.Kind == Send:
		x.sent[a.N] = append(x.sent[a.N], caught(a.T, a.R))
	}
	if a.Kind != Hear && len(got.Changes) > 0 {
		for to := range x.w.Workers() {
			if link := [2]int{a.W, to}; to != a.W {
				x.way[link] = append(x.way[link], got.Changes)
			}
		}
	}
}

// holds holds all that the world tells against the plain one.
func (x *play) holds(t *testing.T) {
	t.Helper()
	tokens(t, x.w, x.p.tokens()...)
	number(t, "outstanding", x.w.Outstanding(), x.p.outstanding())
	for self, h := range x.p.hands {
		view := x.p.view(self)
		counts(t, x.w, self, view...)
		is(t, "Held", x.w.Held(self), h.held...)
		for place := -1; place <= x.p.table.Places(); place++ {
			want := x.p.front(view, place)
			fronts(t, x.w, self, place, want...)
			for _, u := range []api.Time{at(), at(2), at(3, 3, 3), at(last, last, last)} {
				if x.w.Open(self, place, u) != isOpen(want, u) {
					t.Errorf("Open(%d, %d, %v) is not by %v", self, place, u, want)
				}
			}
			number(t, "waiting", x.w.Waiting(self, place), x.p.waitsAt(self, place))
		}
		for node := -1; node <= len(x.p.raw.Nodes); node++ {
			epoch, open := x.w.Epoch(self, node)
			if want, is := h.epochs[node]; epoch != want || open != is {
				t.Errorf("Epoch(%d, %d) = %v, %v, want %v, %v", self, node, epoch, open, want, is)
			}
		}
		for to := range x.p.hands {
			batches := 0
			if to != self {
				batches = len(h.said) - x.p.heard[[2]int{self, to}]
			}
			onLink(t, x.w, self, to, batches, len(x.p.under[[2]int{self, to}]))
		}
	}
	for node := -1; node <= len(x.p.raw.Nodes); node++ {
		catches(t, x.w, node, x.p.caughtBy(node)...)
	}
}

// underWay holds P26.8: what a view lacks of the tokens is what is on its way to it.
func (x *play) underWay(t *testing.T) {
	t.Helper()
	all := x.w.Tokens()
	for self := range x.w.Workers() {
		var l []api.Change
		for from := range x.w.Workers() {
			l = append(l, slices.Concat(x.way[[2]int{from, self}]...)...)
		}
		is(t, fmt.Sprint("Tokens less Counts of ", self), less(all, x.w.Counts(self)), less(l, nil)...)
	}
}

// probes are those of the graph.
func (x *play) probes() []int {
	var l []int
	for node, n := range x.p.raw.Nodes {
		if n.Kind == api.KProbe {
			l = append(l, node)
		}
	}
	return l
}

// settles keeps what all probes have caught up to the times that are done in some view.
func (x *play) settles() {
	for _, node := range x.probes() {
		l := x.w.Caught(node)
		for self := range x.w.Workers() {
			front := x.w.Front(self, x.p.ins[node])
			x.were = append(x.were, settled{node, front, doneAt(front, l)})
		}
	}
}

// stays holds that nothing of that has changed (P9).
func (x *play) stays(t *testing.T) {
	t.Helper()
	for _, node := range x.probes() {
		l := x.w.Caught(node)
		for _, s := range x.were {
			if s.node == node {
				is(t, fmt.Sprint("caught by ", node, " up to what was done at ", s.front), doneAt(s.front, l), s.l...)
			}
		}
	}
}

func doneAt(front []api.Time, l []api.Caught) []api.Caught {
	return slices.DeleteFunc(slices.Clone(l), func(c api.Caught) bool { return isOpen(front, c.T) })
}

// goesOn is one more act.
func (x *play) goesOn(t *testing.T) {
	t.Helper()
	x.does(t, x.ask())
}

// answersOfKinds are the numbers that each kind may answer where there is room, but for those that all of them may.
func answersOfKinds() map[int][]api.Errno {
	return map[int][]api.Errno{
		Send:    {api.ErrNode, api.ErrArity, api.ErrClosed, api.ErrEpoch},
		Advance: {api.ErrNode, api.ErrArity, api.ErrClosed, api.ErrEpoch},
		Close:   {api.ErrNode, api.ErrClosed},
		Take:    {api.ErrPlace, api.ErrEmpty},
		Clone:   {api.ErrCap},
		Lower:   {api.ErrCap, api.ErrArity, api.ErrBack},
		Drop:    {api.ErrCap},
		Emit:    {api.ErrCap, api.ErrArity, api.ErrBack},
		Run:     {api.ErrNode},
		Step:    {},
		Hear:    {api.ErrEmpty},
		Pass:    {api.ErrEmpty},
	}
}

// heldOften holds that each kind has answered each of its numbers, and some more, some times.
func heldOften(t *testing.T, often map[string]int, kinds map[int][]api.Errno, more ...api.Errno) {
	t.Helper()
	for kind, l := range kinds {
		for _, e := range slices.Concat(l, more) {
			if n := often[fmt.Sprint(kind, " ", int(e))]; n < 5 {
				t.Errorf("drawn: the kind %d has answered %d only %d times", kind, e, n)
			}
		}
	}
}

func TestDrawnScripts(t *testing.T) { // P26.2 to P26.8, P3, P4, P6, P9
	often := map[string]int{}
	catches, sums, ahead := 0, 0, 0
	for seed := range uint64(400) {
		next := draws.Numbers(seed)
		raw := draws.Lively(next)
		x := playOf(t, raw, []int{1, 2, 3, 4, api.MaxWorkers}[next(5)], next, often)
		for range 130 {
			x.goesOn(t)
			safeBy(t, x.w, x.least)
			x.underWay(t)
			ahead += heardAhead(x.w)
			if next(5) == 0 {
				x.holds(t)
				x.stays(t)
				x.settles()
			}
			if t.Failed() {
				t.Fatalf("seed %d: %v", seed, raw)
			}
		}
		x.holds(t)
		x.stays(t)
		sums += x.p.sums
		for _, node := range x.probes() {
			catches += len(x.w.Caught(node))
		}
		if t.Failed() {
			t.Fatalf("seed %d: %v", seed, raw)
		}
	}
	heldOften(t, often, answersOfKinds(), api.OK, api.ErrWorker)
	if catches < 500 || sums < 200 || ahead < 500 {
		t.Errorf("drawn: %d are caught, %d sums are told, %d uses stand in views ahead of their makings", catches, sums, ahead)
	}
}

// heardAhead is how many counts in views are below 0: uses that were heard ahead of their makings.
func heardAhead(w *World) int {
	many := 0
	for _, l := range views(w) {
		for _, c := range l {
			if c.N < 0 {
				many++
			}
		}
	}
	return many
}

// flood is a row of joins, the last one first: at each step what waits becomes four times as many. A free node sends to the middle of it, and another one comes behind.
func flood() api.Graph {
	g := nodes(trap(), free(false, 1, 1, api.Conn{}), join(4), join(4), join(4), join(4), input(), free(true, 0, 1))
	g.Edges = []api.Edge{edge(2, 0), keyed(2, 1)}
	for port := range 4 {
		for from := 3; from <= 6; from++ {
			g.Edges = append(g.Edges, api.Edge{From: from, To: from - 1, In: port, Keyed: port == 3 && from < 5})
		}
		g.Edges = append(g.Edges, api.Edge{From: 7, To: 3, In: port})
	}
	return g
}

func TestDrawnScriptsOfFullWorlds(t *testing.T) { // DOC.md, Room; P26.2 to P26.8, P6
	often := map[string]int{}
	most := 0
	for seed := range uint64(16) {
		next := draws.Numbers(seed)
		x := playOf(t, flood(), 1+next(3), next, often)
		senders := 1 + next(x.w.Workers())
		for x.w.Outstanding() < api.MaxQueue-next(40) {
			x.does(t, send(next(senders), 6, at(uint64(next(3))), x.record()))
		}
		for range 60 {
			x.goesOn(t)
			safeBy(t, x.w, x.least)
			x.underWay(t)
			if next(6) == 0 {
				x.holds(t)
			}
			most = max(most, x.w.Outstanding())
			if t.Failed() {
				t.Fatalf("seed %d", seed)
			}
		}
	}
	heldOften(t, often, map[int][]api.Errno{Send: nil, Emit: nil, Run: nil, Step: nil}, api.OK, api.ErrFull)
	if most != api.MaxQueue {
		t.Errorf("drawn: %d are outstanding at most", most)
	}
}
