package world

import (
	"cmp"
	"fmt"
	"math"
	"slices"
	"testing"

	"sluice/api"
	"sluice/route"
)

const last = math.MaxUint64 // the greatest number of a time

func input() api.Node { return api.Node{Kind: api.KInput, Outs: 1} }
func sum() api.Node   { return api.Node{Kind: api.KSum, Ins: 1, Outs: 1} }
func trap() api.Node  { return api.Node{Kind: api.KProbe, Ins: 1} }

func mapper(l ...api.Op) api.Node { return api.Node{Kind: api.KMap, Ins: 1, Outs: 1, Code: l} }

func filter(l ...api.Op) api.Node { return api.Node{Kind: api.KFilter, Ins: 1, Outs: 1, Code: l} }

func join(ins int) api.Node { return api.Node{Kind: api.KJoin, Ins: ins, Outs: 1} }

func loop(by api.Path, bound uint64) api.Node {
	return api.Node{Kind: api.KLoop, Ins: 1, Outs: 1, By: by, Bound: bound}
}

func free(start bool, ins, outs int, conns ...api.Conn) api.Node {
	return api.Node{Kind: api.KFree, Ins: ins, Outs: outs, Conns: conns, Start: start}
}

func edge(from, to int) api.Edge { return api.Edge{From: from, To: to} }

func keyed(from, to int) api.Edge { return api.Edge{From: from, To: to, Keyed: true} }

func by(numbers ...uint64) api.Path {
	numbers = append(slices.Clone(numbers), 0, 0, 0)
	return api.Path{A: numbers[0], B: numbers[1], C: numbers[2]}
}

func at(numbers ...uint64) api.Time { return api.Time(by(numbers...)) }

// ch is a change by n of a time at a place.
func ch(place int, n int64, numbers ...uint64) api.Change {
	return api.Change{S: api.Stamp{At: place, T: at(numbers...)}, N: n}
}

func rec(key, val uint64) api.Record { return api.Record{Key: key, Val: val} }

func msg(place int, t api.Time, r api.Record) api.Message { return api.Message{At: place, T: t, R: r} }

func caught(t api.Time, r api.Record) api.Caught { return api.Caught{T: t, R: r} }

func held(id, place int, numbers ...uint64) api.Held {
	return api.Held{ID: id, S: api.Stamp{At: place, T: at(numbers...)}}
}

// nodes is a graph of arity 1 without edges.
func nodes(l ...api.Node) api.Graph { return api.Graph{Arity: 1, Nodes: l} }

// row is a graph in which an edge leads from each node to the next one, keyed where that is a sum.
func row(l ...api.Node) api.Graph {
	g := nodes(l...)
	for i := 1; i < len(l); i++ {
		g.Edges = append(g.Edges, api.Edge{From: i - 1, To: i, Keyed: l[i].Kind == api.KSum})
	}
	return g
}

// summed is the chapter's graph: input 0, sum 1 2, probe 3.
func summed() api.Graph { return row(input(), sum(), trap()) }

// trapped is an input 0 and a probe 1, by a keyed edge.
func trapped() api.Graph {
	return api.Graph{Arity: 1, Nodes: []api.Node{input(), trap()}, Edges: []api.Edge{keyed(0, 1)}}
}

// kinds has all kinds of nodes: input 0, map 1 2, filter 3 4, join 5 6 7, loop 8 9, sum 10 11, probe 12, free 13 14. The input leads to the map and, by keys, to the free node's in-port, whose out-port leads to the probe.
func kinds() api.Graph {
	g := nodes(input(), mapper(), filter(), join(2), loop(by(1), 9), sum(), trap(), free(true, 1, 1, api.Conn{}))
	g.Edges = []api.Edge{edge(0, 1), keyed(0, 7), edge(7, 6), keyed(1, 5), edge(5, 2), edge(2, 3)}
	return g
}

func begin(t *testing.T, g api.Graph, workers int) *World {
	t.Helper()
	w, e, n := New(g, workers)
	if w == nil || e != api.OK || n != 0 {
		t.Fatalf("New = %v, %d, %d: %v", w, e, n, g)
	}
	return w
}

func send(w, node int, t api.Time, r api.Record) Act {
	return Act{Kind: Send, W: w, N: node, T: t, R: r}
}
func advance(w, node int, t api.Time) Act { return Act{Kind: Advance, W: w, N: node, T: t} }
func shut(w, node int) Act                { return Act{Kind: Close, W: w, N: node} }
func take(w, place int) Act               { return Act{Kind: Take, W: w, N: place} }
func clone(w, id int) Act                 { return Act{Kind: Clone, W: w, N: id} }
func lower(w, id int, t api.Time) Act     { return Act{Kind: Lower, W: w, N: id, T: t} }
func drop(w, id int) Act                  { return Act{Kind: Drop, W: w, N: id} }
func emit(w, id int, t api.Time, r api.Record) Act {
	return Act{Kind: Emit, W: w, N: id, T: t, R: r}
}
func run(w, node int) Act  { return Act{Kind: Run, W: w, N: node} }
func step(w int) Act       { return Act{Kind: Step, W: w} }
func hear(w, from int) Act { return Act{Kind: Hear, W: w, From: from} }
func pass(w, from int) Act { return Act{Kind: Pass, W: w, From: from} }

// told is all that an act answers.
type told struct {
	Answer
	e api.Errno
}

func (a Act) of(w *World) told {
	x, e := w.Do(a)
	return told{x, e}
}

func (x told) same(y told) bool {
	return slices.Equal(x.IDs, y.IDs) && x.Message == y.Message && slices.Equal(x.Changes, y.Changes) && x.e == y.e
}

// less is what one list of changes has more than another one, by places, then in the order of telling.
func less(l, than []api.Change) []api.Change {
	counts := map[api.Stamp]int64{}
	for _, c := range l {
		counts[c.S] += c.N
	}
	for _, c := range than {
		counts[c.S] -= c.N
	}
	return listed(counts)
}

func listed(counts map[api.Stamp]int64) []api.Change {
	var l []api.Change
	for s, n := range counts {
		if n != 0 {
			l = append(l, api.Change{S: s, N: n})
		}
	}
	slices.SortFunc(l, func(a, b api.Change) int { return cmp.Or(cmp.Compare(a.S.At, b.S.At), orderOf(a.S.T, b.S.T)) })
	return l
}

func orderOf(t, u api.Time) int {
	return cmp.Or(cmp.Compare(t.A, u.A), cmp.Compare(t.B, u.B), cmp.Compare(t.C, u.C))
}

func orderOfCaught(a, b api.Caught) int {
	return cmp.Or(orderOf(a.T, b.T), cmp.Compare(a.R.Key, b.R.Key), cmp.Compare(a.R.Val, b.R.Val))
}

// does holds that an act is done and changes just this, in what it answers, in Tokens and in the worker's view. What is on links and waits has a test of its own.
func does(t *testing.T, w *World, a Act, want ...api.Change) Answer {
	t.Helper()
	tokens, all := w.Tokens(), views(w)
	x, e := w.Do(a)
	if e != api.OK || !slices.Equal(x.Changes, want) {
		t.Errorf("%v = %v, %d, want the changes %v", a, x, e, want)
	}
	global := want
	if a.Kind == Hear {
		global = nil
	}
	is(t, fmt.Sprint(a, ": Tokens has gone by"), less(w.Tokens(), tokens), global...)
	for worker, l := range views(w) {
		var gone []api.Change
		if worker == a.W {
			gone = want
		}
		is(t, fmt.Sprint(a, ": Counts of ", worker, " has gone by"), less(l, all[worker]), gone...)
	}
	return x
}

func views(w *World) [][]api.Change {
	var l [][]api.Change
	for worker := range w.Workers() {
		l = append(l, w.Counts(worker))
	}
	return l
}

// refuses holds that an act is refused by a number, and that it is as if it had not been asked (P26.2).
func refuses(t *testing.T, w *World, a Act, e api.Errno) {
	t.Helper()
	was := w.Copy()
	if x := a.of(w); !x.same(told{e: e}) {
		t.Errorf("%v = %v, want just %d", a, x, e)
	}
	if !alike(w, was) {
		t.Errorf("%v was refused, and has changed something", a)
	}
}

// alike tells whether two answer every call as the other one, now and behind much that may be asked next.
func alike(w, v *World) bool {
	if answersOf(w) != answersOf(v) {
		return false
	}
	x, y := w.Copy(), v.Copy()
	for _, a := range nexts(w) {
		if !a.of(x).same(a.of(y)) {
			return false
		}
	}
	return answersOf(x) == answersOf(y)
}

// nexts are acts by which all that is on links, waits, is held or open is seen.
func nexts(w *World) []Act {
	var l []Act
	for from := range w.Workers() {
		for to := range w.Workers() {
			l = append(l, slices.Repeat([]Act{hear(to, from)}, w.Batches(from, to)+1)...)
			l = append(l, slices.Repeat([]Act{pass(to, from)}, min(w.Messages(from, to), 20)+1)...)
		}
	}
	for self := range w.Workers() {
		for place := range w.Graph().Places() {
			l = append(l, take(self, place), take(self, place))
		}
		for i, h := range w.Held(self) {
			if i%50 == 0 {
				l = append(l, clone(self, h.ID), emit(self, h.ID, at(last), rec(3, 3)), drop(self, h.ID))
			}
		}
		for node := range w.Graph().Nodes() {
			l = append(l, send(self, node, at(last), rec(5, 5)), shut(self, node))
		}
		l = append(l, step(self), step(self))
	}
	return l
}

// answersOf is all that a world tells, as a text, in which a list without elements is one, nil or not.
func answersOf(w *World) string {
	workers, places, many := w.Workers(), 0, 0
	l := []any{workers, w.Tokens(), w.Outstanding()}
	if g := w.Graph(); g != nil {
		places, many = g.Places(), g.Nodes()
		l = append(l, g.Raw())
	}
	for self := -1; self <= workers; self++ {
		l = append(l, self, w.Counts(self), w.Held(self))
		for place := -1; place <= places; place++ {
			l = append(l, w.Front(self, place), w.Waiting(self, place))
			for _, u := range []api.Time{at(), at(1, 2), at(4), at(last, last, last)} {
				l = append(l, w.Open(self, place, u))
			}
		}
		for node := -1; node <= many; node++ {
			epoch, open := w.Epoch(self, node)
			l = append(l, epoch, open)
		}
		for to := -1; to <= workers; to++ {
			l = append(l, w.Batches(self, to), w.Messages(self, to))
		}
	}
	for node := -1; node <= many; node++ {
		l = append(l, w.Caught(node))
	}
	return fmt.Sprint(l...)
}

func is[T comparable](t *testing.T, what string, got []T, want ...T) {
	t.Helper()
	if !slices.Equal(got, want) {
		t.Errorf("%s: %v, want %v", what, got, want)
	}
}

func number(t *testing.T, what string, got, want int) {
	t.Helper()
	if got != want {
		t.Errorf("%s: %d, want %d", what, got, want)
	}
}

func fronts(t *testing.T, w *World, self, place int, want ...api.Time) {
	t.Helper()
	is(t, fmt.Sprint("the front of ", place, " at ", self), w.Front(self, place), want...)
}

func tokens(t *testing.T, w *World, want ...api.Change) {
	t.Helper()
	is(t, "Tokens", w.Tokens(), want...)
}

func counts(t *testing.T, w *World, self int, want ...api.Change) {
	t.Helper()
	is(t, fmt.Sprint("Counts of ", self), w.Counts(self), want...)
}

func catches(t *testing.T, w *World, node int, want ...api.Caught) {
	t.Helper()
	is(t, fmt.Sprint("caught by ", node), w.Caught(node), want...)
}

// onLinks holds how many batches and messages are on a link.
func onLink(t *testing.T, w *World, from, to, batches, messages int) {
	t.Helper()
	number(t, fmt.Sprint("batches from ", from, " to ", to), w.Batches(from, to), batches)
	number(t, fmt.Sprint("messages from ", from, " to ", to), w.Messages(from, to), messages)
}

// passes holds that a message is passed on.
func passes(t *testing.T, w *World, a Act, want api.Message) {
	t.Helper()
	if x := does(t, w, a); x.Message != want || len(x.IDs) != 0 {
		t.Errorf("%v = %v, want the message %v", a, x, want)
	}
}

// mints holds what Take or Clone answers beside its changes.
func mints(t *testing.T, x Answer, m api.Message, ids ...int) {
	t.Helper()
	if x.Message != m || !slices.Equal(x.IDs, ids) {
		t.Errorf("%v, %v, want %v, %v", x.Message, x.IDs, m, ids)
	}
}

// keyOf is the key with that number, counted from 0, of those that belong to a worker.
func keyOf(worker, workers, number int) uint64 {
	for key := uint64(0); ; key++ {
		if route.To(key, workers) != worker {
			continue
		}
		if number == 0 {
			return key
		}
		number--
	}
}

func TestTheExamples(t *testing.T) { // P26.1 to P26.5: one behind the other
	for _, workers := range []int{0, 9} { // 1
		if w, e, n := New(summed(), workers); w != nil || e != api.ErrWorker || n != 0 {
			t.Errorf("New of %d workers = %v, %d, %d", workers, w, e, n)
		}
	}
	w := begin(t, summed(), 2)
	tokens(t, w, ch(0, 2, 0))
	fronts(t, w, 0, 3, at())
	fronts(t, w, 1, 3, at())

	r := rec(keyOf(1, 2, 0), 5) // 2
	does(t, w, send(0, 0, at(), r), ch(1, 1, 0))
	onLink(t, w, 0, 1, 1, 1)
	onLink(t, w, 1, 0, 0, 0)
	number(t, "outstanding", w.Outstanding(), 1)
	tokens(t, w, ch(0, 2, 0), ch(1, 1, 0))
	counts(t, w, 1, ch(0, 2, 0))

	passes(t, w, pass(1, 0), msg(1, at(), r)) // 3
	does(t, w, step(1), ch(1, -1, 0), ch(2, 1, 0))
	onLink(t, w, 1, 0, 1, 0)
	counts(t, w, 1, ch(0, 2, 0), ch(1, -1, 0), ch(2, 1, 0))
	fronts(t, w, 1, 3, at())

	does(t, w, shut(0, 0), ch(0, -1, 0)) // 4
	does(t, w, shut(1, 0), ch(0, -1, 0))
	fronts(t, w, 1, 3, at())
	does(t, w, hear(1, 0), ch(1, 1, 0))
	does(t, w, hear(1, 0), ch(0, -1, 0))
	counts(t, w, 1, ch(2, 1, 0))
	does(t, w, step(1), ch(2, -1, 0))
	catches(t, w, 2, caught(at(), r))

	does(t, w, hear(0, 1), ch(1, -1, 0), ch(2, 1, 0)) // 5
	does(t, w, hear(0, 1), ch(0, -1, 0))
	does(t, w, hear(0, 1), ch(2, -1, 0))
	refuses(t, w, hear(0, 1), api.ErrEmpty)
	tokens(t, w)
	counts(t, w, 0)
	counts(t, w, 1)
	fronts(t, w, 0, 3)

	refuses(t, w, Act{}, api.ErrArg) // 6
	refuses(t, w, Act{Kind: 13}, api.ErrArg)
	refuses(t, w, step(2), api.ErrWorker)
	refuses(t, w, hear(0, 0), api.ErrWorker)
	refuses(t, w, pass(0, 7), api.ErrWorker)
}
