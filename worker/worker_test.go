package worker

import (
	"bytes"
	"cmp"
	"fmt"
	"math"
	"slices"
	"testing"

	"sluice/api"
	"sluice/batch"
	"sluice/draws"
	"sluice/graph"
	"sluice/route"
)

const (
	most = api.MaxCount
	last = math.MaxUint64 // the greatest number of a time
	wide = 1 << 20        // room for all that a test makes
)

func input() api.Node { return api.Node{Kind: api.KInput, Outs: 1} }
func sum() api.Node   { return api.Node{Kind: api.KSum, Ins: 1, Outs: 1} }
func trap() api.Node  { return api.Node{Kind: api.KProbe, Ins: 1} }

func mapper(l ...api.Op) api.Node { return api.Node{Kind: api.KMap, Ins: 1, Outs: 1, Code: l} }

func filter(l ...api.Op) api.Node { return api.Node{Kind: api.KFilter, Ins: 1, Outs: 1, Code: l} }

func join(ins int) api.Node { return api.Node{Kind: api.KJoin, Ins: ins, Outs: 1} }

func loop(by api.Path, bound uint64) api.Node {
	return api.Node{Kind: api.KLoop, Ins: 1, Outs: 1, By: by, Bound: bound}
}

func free(start bool, ins, outs int, conns ...api.Conn) api.Node {
	return api.Node{Kind: api.KFree, Ins: ins, Outs: outs, Conns: conns, Start: start}
}

func edge(from, to int) api.Edge { return api.Edge{From: from, To: to} }

func keyed(from, to int) api.Edge { return api.Edge{From: from, To: to, Keyed: true} }

func by(numbers ...uint64) api.Path {
	numbers = append(slices.Clone(numbers), 0, 0, 0)
	return api.Path{A: numbers[0], B: numbers[1], C: numbers[2]}
}

func at(numbers ...uint64) api.Time { return api.Time(by(numbers...)) }

// ch is a change by n of a time at a place.
func ch(place int, n int64, numbers ...uint64) api.Change {
	return api.Change{S: api.Stamp{At: place, T: at(numbers...)}, N: n}
}

func rec(key, val uint64) api.Record { return api.Record{Key: key, Val: val} }

func msg(place int, t api.Time, key, val uint64) api.Message {
	return api.Message{At: place, T: t, R: rec(key, val)}
}

func caught(t api.Time, key, val uint64) api.Caught { return api.Caught{T: t, R: rec(key, val)} }

func held(id, place int, numbers ...uint64) api.Held {
	return api.Held{ID: id, S: api.Stamp{At: place, T: at(numbers...)}}
}

// nodes is a graph of arity 1 without edges.
func nodes(l ...api.Node) api.Graph { return api.Graph{Arity: 1, Nodes: l} }

// row is a graph in which an edge leads from each node to the next one, keyed where that is a sum.
func row(l ...api.Node) api.Graph {
	g := nodes(l...)
	for i := 1; i < len(l); i++ {
		g.Edges = append(g.Edges, api.Edge{From: i - 1, To: i, Keyed: l[i].Kind == api.KSum})
	}
	return g
}

// summed is the chapter's first graph: input 0, sum 1 2, probe 3.
func summed() api.Graph { return row(input(), sum(), trap()) }

// taking is the chapter's second graph: in-place 0, out-places 1 and 2.
func taking() api.Graph {
	return nodes(free(false, 1, 2, api.Conn{Out: 0, By: by(1)}, api.Conn{Out: 1}))
}

// starting is a free node with a capability at the place 0, number 1, and a probe 1.
func starting() api.Graph { return row(free(true, 0, 1), trap()) }

// greatest has as many places as there can be: 8 n to 8 n + 3 are the in-places of the node n, the next four its out-places.
func greatest(start bool) api.Graph {
	return api.Graph{Arity: 3, Nodes: slices.Repeat([]api.Node{free(start, api.MaxPorts, api.MaxPorts)}, api.MaxNodes)}
}

func made(t *testing.T, g api.Graph) *graph.Graph {
	t.Helper()
	x, e, at := graph.New(g)
	if e != api.OK {
		t.Fatalf("the graph may not be: %d at %d: %v", e, at, g)
	}
	return x
}

func begin(t *testing.T, g api.Graph, workers, self int) *Worker {
	t.Helper()
	w, e := New(made(t, g), workers, self)
	if w == nil || e != api.OK {
		t.Fatalf("New = %v, %d: %v", w, e, g)
	}
	return w
}

// alone is the one worker of a graph.
func alone(t *testing.T, g api.Graph) *Worker {
	t.Helper()
	return begin(t, g, 1, 0)
}

// put is the bytes of a list in form.
func put(t *testing.T, l ...api.Change) []byte {
	t.Helper()
	b, e := batch.Put(l)
	if e != api.OK {
		t.Fatalf("Put(%v) = %d", l, e)
	}
	return b
}

// asked is an act as it is asked: of which n tells the node, the place or the number.
type asked struct {
	name string
	n    int
	t    api.Time
	r    api.Record
	room int
}

func send(node int, t api.Time, r api.Record, room int) asked { return asked{"Send", node, t, r, room} }
func advance(node int, t api.Time) asked                      { return asked{name: "Advance", n: node, t: t} }
func shut(node int) asked                                     { return asked{name: "Close", n: node} }
func take(place int) asked                                    { return asked{name: "Take", n: place} }
func clone(id int) asked                                      { return asked{name: "Clone", n: id} }
func lower(id int, t api.Time) asked                          { return asked{name: "Lower", n: id, t: t} }
func drop(id int) asked                                       { return asked{name: "Drop", n: id} }
func emit(id int, t api.Time, r api.Record, room int) asked   { return asked{"Emit", id, t, r, room} }
func run(node, room int) asked                                { return asked{name: "Run", n: node, room: room} }
func step(room int) asked                                     { return asked{name: "Step", room: room} }

// told is all that is answered; ids is the number of Clone, too, if it isn't 0.
type told struct {
	done    Done
	message api.Message
	ids     []int
	e       api.Errno
}

func (x told) same(y told) bool {
	return bytes.Equal(x.done.Batch, y.done.Batch) && slices.Equal(x.done.Out, y.done.Out) && x.message == y.message && slices.Equal(x.ids, y.ids) && x.e == y.e
}

func (c asked) of(w *Worker) told {
	var x told
	switch c.name {
	case "Send":
		x.done, x.e = w.Send(c.n, c.t, c.r, c.room)
	case "Advance":
		x.done, x.e = w.Advance(c.n, c.t)
	case "Close":
		x.done, x.e = w.Close(c.n)
	case "Take":
		x.done, x.message, x.ids, x.e = w.Take(c.n)
	case "Clone":
		id := 0
		if x.done, id, x.e = w.Clone(c.n); id != 0 {
			x.ids = []int{id}
		}
	case "Lower":
		x.done, x.e = w.Lower(c.n, c.t)
	case "Drop":
		x.done, x.e = w.Drop(c.n)
	case "Emit":
		x.done, x.e = w.Emit(c.n, c.t, c.r, c.room)
	case "Run":
		x.done, x.e = w.Run(c.n, c.room)
	case "Step":
		x.done, x.e = w.Step(c.room)
	}
	return x
}

// less is what one list of changes has more than another one, by places, then in the order of telling.
func less(l, than []api.Change) []api.Change {
	counts := map[api.Stamp]int64{}
	for _, c := range l {
		counts[c.S] += c.N
	}
	for _, c := range than {
		counts[c.S] -= c.N
	}
	return listed(counts)
}

func listed(counts map[api.Stamp]int64) []api.Change {
	var l []api.Change
	for s, n := range counts {
		if n != 0 {
			l = append(l, api.Change{S: s, N: n})
		}
	}
	slices.SortFunc(l, func(a, b api.Change) int { return order(a.S, b.S) })
	return l
}

// order is by places, then in the order of telling.
func order(a, b api.Stamp) int {
	return cmp.Or(cmp.Compare(a.At, b.At), orderOf(a.T, b.T))
}

func orderOf(t, u api.Time) int {
	return cmp.Or(cmp.Compare(t.A, u.A), cmp.Compare(t.B, u.B), cmp.Compare(t.C, u.C))
}

// does holds that an act is done and changes just this: by its bytes, in the view, and (P25.8) at the worker and in the messages to others.
func does(t *testing.T, w *Worker, c asked, want ...api.Change) told {
	t.Helper()
	counts, tokens := w.Counts(), w.Tokens()
	x := c.of(w)
	if x.e != api.OK {
		t.Errorf("%v is refused by %d", c, x.e)
	}
	if !bytes.Equal(x.done.Batch, put(t, want...)) {
		l, err := batch.Get(x.done.Batch)
		t.Errorf("%v: the bytes % x of %v (%v), want %v", c, x.done.Batch, l, err, want)
	}
	if l := less(w.Counts(), counts); !slices.Equal(l, want) {
		t.Errorf("%v: Counts has gone by %v, want %v", c, l, want)
	}
	now := w.Tokens()
	for _, o := range x.done.Out {
		now = append(now, api.Change{S: api.Stamp{At: o.M.At, T: o.M.T}, N: 1})
	}
	if l := less(now, tokens); !slices.Equal(l, want) {
		t.Errorf("%v: Tokens and Out have gone by %v, want %v", c, l, want)
	}
	return x
}

// refuses holds that an act is refused by a number, and that it is as if it had not been asked (P25.8).
func refuses(t *testing.T, w *Worker, c asked, e api.Errno) {
	t.Helper()
	was := w.Copy()
	if x := c.of(w); !x.same(told{e: e}) {
		t.Errorf("%v = %v, want just %d", c, x, e)
	}
	if !alike(w, was) {
		t.Errorf("%v was refused, and has changed something", c)
	}
}

// alike tells whether two answer every call as the other one, now and behind one more act.
func alike(w, v *Worker) bool {
	if answersOf(w) != answersOf(v) {
		return false
	}
	l := []asked{step(wide)}
	for node := range w.g.Nodes() {
		l = append(l, run(node, wide), send(node, at(last), rec(5, 5), wide), shut(node))
	}
	for place := range w.g.Places() {
		l = append(l, take(place))
	}
	for i, h := range w.Held() {
		if i%50 == 0 {
			l = append(l, clone(h.ID), drop(h.ID))
		}
	}
	for _, c := range l {
		x, y := w.Copy(), v.Copy()
		if !c.of(x).same(c.of(y)) || answersOf(x) != answersOf(y) {
			return false
		}
	}
	return alikeTaken(w.Copy(), v.Copy())
}

// alikeTaken tells whether all that can be taken by hand is the same, one message behind the other.
func alikeTaken(w, v *Worker) bool {
	for place := range w.g.Places() {
		for {
			x := take(place).of(w)
			if !x.same(take(place).of(v)) {
				return false
			}
			if x.e != api.OK {
				break
			}
		}
	}
	return true
}

// answersOf is all that a worker tells, as a text, in which a list without elements is one, nil or not.
func answersOf(w *Worker) string {
	places, many := 0, 0
	if w != nil {
		places, many = w.g.Places(), w.g.Nodes()
	}
	l := []any{w.Counts(), w.Tokens(), w.Held()}
	for place := -1; place <= places; place++ {
		l = append(l, place, w.Front(place), w.Waiting(place))
		for _, u := range []api.Time{at(), at(1, 2), at(4), at(last, last, last)} {
			l = append(l, w.Open(place, u))
		}
	}
	for node := -1; node <= many; node++ {
		epoch, open := w.Epoch(node)
		l = append(l, node, epoch, open, w.Caught(node))
	}
	return fmt.Sprint(l...)
}

func is[T comparable](t *testing.T, what string, got []T, want ...T) {
	t.Helper()
	if !slices.Equal(got, want) {
		t.Errorf("%s: %v, want %v", what, got, want)
	}
}

func fronts(t *testing.T, w *Worker, place int, want ...api.Time) {
	t.Helper()
	is(t, fmt.Sprint("the front of ", place), w.Front(place), want...)
}

func tokens(t *testing.T, w *Worker, want ...api.Change) {
	t.Helper()
	is(t, "Tokens", w.Tokens(), want...)
}

func counts(t *testing.T, w *Worker, want ...api.Change) {
	t.Helper()
	is(t, "Counts", w.Counts(), want...)
}

func catches(t *testing.T, w *Worker, node int, want ...api.Caught) {
	t.Helper()
	is(t, fmt.Sprint("caught by ", node), w.Caught(node), want...)
}

func waits(t *testing.T, w *Worker, place, want int) {
	t.Helper()
	if n := w.Waiting(place); n != want {
		t.Errorf("%d wait at %d, want %d", n, place, want)
	}
}

func hears(t *testing.T, w *Worker, l ...api.Change) {
	t.Helper()
	if err := w.Hear(put(t, l...)); err != nil {
		t.Errorf("Hear of %v: %v", l, err)
	}
}

func passes(t *testing.T, w *Worker, l ...api.Message) {
	t.Helper()
	for _, m := range l {
		if e := w.Pass(m); e != api.OK {
			t.Errorf("Pass(%v) = %d", m, e)
		}
	}
}

// goes holds which messages go to other workers.
func goes(t *testing.T, x told, want ...route.Out) {
	t.Helper()
	is(t, "Out", x.done.Out, want...)
}

// mints holds what Take or Clone answers beside its changes.
func mints(t *testing.T, x told, m api.Message, ids ...int) {
	t.Helper()
	if x.message != m || !slices.Equal(x.ids, ids) {
		t.Errorf("%v, %v, want %v, %v", x.message, x.ids, m, ids)
	}
}

// keyOf is the key with that number, counted from 0, of those that belong to a worker.
func keyOf(worker, workers, number int) uint64 {
	for key := uint64(0); ; key++ {
		if route.To(key, workers) != worker {
			continue
		}
		if number == 0 {
			return key
		}
		number--
	}
}

func TestTheFirstExample(t *testing.T) { // P25.2, P25.5, P25.7, P25.8
	w := alone(t, summed())
	goes(t, does(t, w, send(0, at(), rec(7, 5), 9), ch(1, 1, 0)))
	goes(t, does(t, w, send(0, at(), rec(7, 3), 1), ch(1, 1, 0)))
	refuses(t, w, send(0, at(), rec(7, 1), 0), api.ErrFull)
	refuses(t, w, send(0, at(), rec(7, 1), -4), api.ErrFull)
	refuses(t, w, send(1, at(), rec(7, 1), 9), api.ErrNode)
	refuses(t, w, send(9, at(), rec(7, 1), 9), api.ErrNode)
	does(t, w, step(0), ch(1, -2, 0), ch(2, 1, 0))
	fronts(t, w, 3, at())
	does(t, w, step(0))
	does(t, w, advance(0, at(1)), ch(0, -1, 0), ch(0, 1, 1))
	refuses(t, w, advance(0, at(0)), api.ErrEpoch)
	refuses(t, w, step(0), api.ErrFull)
	does(t, w, step(1), ch(2, -1, 0))
	catches(t, w, 2, caught(at(), 7, 8))
	fronts(t, w, 3, at(1))
	tokens(t, w, ch(0, 1, 1))
	does(t, w, shut(0), ch(0, -1, 1))
	refuses(t, w, shut(0), api.ErrClosed)
	fronts(t, w, 3)
	refuses(t, w, send(0, at(5), rec(7, 1), 9), api.ErrClosed)
	tokens(t, w)
	counts(t, w)
}

func TestTheSecondExample(t *testing.T) { // P25.3, P25.4, P25.6
	for self := range 3 {
		w := begin(t, taking(), 3, self)
		m := msg(0, at(4), 7, 5)
		passes(t, w, m)
		counts(t, w)
		mints(t, does(t, w, take(0), ch(0, -1, 4), ch(1, 1, 5), ch(2, 1, 4)), m, 1, 2)
		counts(t, w, ch(0, -1, 4), ch(1, 1, 5), ch(2, 1, 4))
		refuses(t, w, lower(2, at(3)), api.ErrBack)
		mints(t, does(t, w, clone(1), ch(1, 1, 5)), api.Message{}, 3)
		does(t, w, drop(1), ch(1, -1, 5))
		refuses(t, w, drop(1), api.ErrCap)
		goes(t, does(t, w, emit(3, at(5), rec(1, 1), 9)))
		refuses(t, w, take(0), api.ErrEmpty)
		refuses(t, w, take(1), api.ErrPlace)
		m = msg(0, at(last), 1, 2)
		passes(t, w, m)
		mints(t, does(t, w, take(0), ch(0, -1, last), ch(2, 1, last)), m, 4)
		is(t, "Held", w.Held(), held(2, 2, 4), held(3, 1, 5), held(4, 2, last))
	}
}

// reaches lets all that an act answers come to another worker: its batch is heard, its messages for that one are passed.
func reaches(t *testing.T, w *Worker, self int, x told) {
	t.Helper()
	if err := w.Hear(x.done.Batch); err != nil {
		t.Errorf("Hear: %v", err)
	}
	for _, o := range x.done.Out {
		if o.Worker == self {
			passes(t, w, o.M)
		}
	}
}

func TestUsesHeardAheadOfMakings(t *testing.T) { // DOC.md, the fourth example of the whole
	g := api.Graph{Arity: 1, Nodes: []api.Node{input(), trap()}, Edges: []api.Edge{keyed(0, 1)}}
	var w [3]*Worker
	for self := range w {
		w[self] = begin(t, g, 3, self)
	}
	key := keyOf(1, 3, 0)
	does(t, w[0], send(0, at(), rec(key, 1), 9), ch(1, 1, 0))
	first := does(t, w[0], advance(0, at(1)), ch(0, -1, 0), ch(0, 1, 1))
	other := does(t, w[1], advance(0, at(1)), ch(0, -1, 0), ch(0, 1, 1))
	reaches(t, w[1], 1, first)
	reaches(t, w[0], 0, other)
	made := does(t, w[2], send(0, at(), rec(key, 2), 9), ch(1, 1, 0))
	goes(t, made, route.Out{Worker: 1, M: msg(1, at(), key, 2)})
	closed := does(t, w[2], shut(0), ch(0, -1, 0))
	passes(t, w[1], made.done.Out[0].M)
	used := does(t, w[1], run(1, 0), ch(1, -1, 0))
	catches(t, w[1], 1, caught(at(), key, 2))
	reaches(t, w[0], 0, used)
	counts(t, w[0], ch(0, 1, 0), ch(0, 2, 1))
	fronts(t, w[0], 1, at())
	reaches(t, w[0], 0, made)
	reaches(t, w[0], 0, closed)
	counts(t, w[0], ch(0, 2, 1), ch(1, 1, 0))
	fronts(t, w[0], 1, at())
}

func TestRoundALoop(t *testing.T) { // DOC.md, the fifth example of the whole
	w := alone(t, draws.Ring())
	does(t, w, send(0, at(), rec(1, 1), 9), ch(1, 1, 0))
	does(t, w, send(0, at(7), rec(2, 2), 9), ch(1, 1, 7))
	for range 4 {
		step(wide).of(w)
	}
	catches(t, w, 3, caught(at(), 1, 1), caught(at(1), 1, 1), caught(at(2), 1, 1), caught(at(7), 2, 2))
	tokens(t, w, ch(0, 1, 0))
}

func TestSumsRoundALoop(t *testing.T) { // DOC.md, the sixth example of the whole
	w := alone(t, api.Graph{Arity: 1, Nodes: []api.Node{input(), join(2), sum(), loop(by(1), 2), trap()}, Edges: []api.Edge{edge(0, 1), keyed(1, 2), edge(2, 3), {From: 3, To: 1, In: 1}, edge(2, 4)}})
	send(0, at(), rec(1, 4), 9).of(w)
	send(0, at(1), rec(1, 5), 9).of(w)
	shut(0).of(w)
	for range 6 {
		step(wide).of(w)
	}
	catches(t, w, 4, caught(at(), 1, 4), caught(at(1), 1, 9), caught(at(2), 1, 9))
	tokens(t, w)
	counts(t, w)
}

func TestACapabilityHoldsItsTime(t *testing.T) { // DOC.md, the seventh example of the whole
	w := alone(t, starting())
	is(t, "Held", w.Held(), held(1, 0, 0))
	does(t, w, emit(1, at(4), rec(1, 1), 9), ch(1, 1, 4))
	does(t, w, lower(1, at(6)), ch(0, -1, 0), ch(0, 1, 6))
	refuses(t, w, emit(1, at(4), rec(1, 1), 9), api.ErrBack)
	does(t, w, run(1, 0), ch(1, -1, 4))
	fronts(t, w, 1, at(6))
	does(t, w, drop(1), ch(0, -1, 6))
	refuses(t, w, emit(1, at(6), rec(1, 1), 9), api.ErrCap)
	fronts(t, w, 1)
}

func TestAnotherWorkersInput(t *testing.T) { // DOC.md, the eighth example of the whole
	w, v := begin(t, summed(), 2, 0), begin(t, summed(), 2, 1)
	does(t, w, shut(0), ch(0, -1, 0))
	fronts(t, w, 3, at())
	reaches(t, w, 0, does(t, v, advance(0, at(3)), ch(0, -1, 0), ch(0, 1, 3)))
	fronts(t, w, 3, at(3))
}

func TestTheRoomOfAWorld(t *testing.T) { // DOC.md, the ninth example of the whole
	g := nodes(input(), trap(), trap())
	g.Edges = []api.Edge{edge(0, 1), edge(0, 2)}
	refuses(t, alone(t, g), send(0, at(), rec(1, 1), api.MaxQueue-2047), api.ErrFull)
	does(t, alone(t, row(input(), trap())), send(0, at(), rec(1, 1), api.MaxQueue-2047), ch(1, 1, 0))
	for extra, e := range []api.Errno{api.OK, api.ErrFull} {
		// A map takes 10 and, by edges to two probes, makes 20: more by 10.
		w := alone(t, api.Graph{Arity: 1, Nodes: []api.Node{mapper(), trap(), trap()}, Edges: []api.Edge{edge(0, 1), edge(0, 2)}})
		for range 10 {
			passes(t, w, msg(0, at(), 1, 1))
		}
		if e == api.OK {
			does(t, w, run(0, 10-extra), ch(0, -10, 0), ch(2, 10, 0), ch(3, 10, 0))
		} else {
			refuses(t, w, run(0, 10-extra), e)
		}
	}
}
