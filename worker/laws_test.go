package worker

import (
	"errors"
	"fmt"
	"maps"
	"slices"
	"testing"

	"sluice/api"
	"sluice/batch"
	"sluice/draws"
)

// pair is a worker and what is to be told of it.
type pair struct {
	w *Worker
	p plain
}

func (x pair) copied() pair { return pair{x.w.Copy(), x.p.copied()} }

// holds holds all that a worker tells against the plain one.
func (x pair) holds(t *testing.T) {
	t.Helper()
	counts(t, x.w, listed(x.p.counts)...)
	tokens(t, x.w, listed(x.p.tokens())...)
	is(t, "Held", x.w.Held(), x.p.held...)
	for place := -1; place <= x.p.table.Places(); place++ {
		want := x.p.front(place)
		fronts(t, x.w, place, want...)
		for _, u := range []api.Time{at(), at(2), at(3, 3, 3), at(last, last, last)} {
			open := slices.ContainsFunc(want, func(v api.Time) bool { return atOrAhead(v, u) })
			if x.w.Open(place, u) != open {
				t.Errorf("Open(%d, %v) is not %v", place, u, open)
			}
		}
		many := 0
		for _, m := range x.p.waiting {
			if m.At == place {
				many++
			}
		}
		waits(t, x.w, place, many)
	}
	for node := -1; node <= len(x.p.raw.Nodes); node++ {
		epoch, open := x.w.Epoch(node)
		if want, is := x.p.epochs[node]; epoch != want || open != is {
			t.Errorf("Epoch(%d) = %v, %v, want %v, %v", node, epoch, open, want, is)
		}
		catches(t, x.w, node, slices.SortedFunc(slices.Values(x.p.caught[node]), orderOfCaught)...)
	}
}

// does is an act of both.
func (x *pair) does(t *testing.T, c asked) told {
	t.Helper()
	want, got := x.p.do(c), c.of(x.w)
	if !got.same(want) {
		l, _ := batch.Get(got.done.Batch)
		m, _ := batch.Get(want.done.Batch)
		t.Errorf("%v = %v with %v, want %v with %v", c, got, l, want, m)
	}
	return want
}

func (x *pair) hears(t *testing.T, b []byte) api.Errno {
	t.Helper()
	want, err := x.p.hear(b), x.w.Hear(b)
	e, found := api.OK, api.OK
	errors.As(want, &e)
	errors.As(err, &found)
	if (err == nil) != (want == nil) || e != found || fmt.Sprint(err) != fmt.Sprint(want) {
		t.Errorf("Hear(% x) = %v, want %v", b, err, want)
	}
	return e
}

func (x *pair) passes(t *testing.T, m api.Message) api.Errno {
	t.Helper()
	want := x.p.pass(m)
	if e := x.w.Pass(m); e != want {
		t.Errorf("Pass(%v) = %d, want %d", m, e, want)
	}
	return want
}

// crowd is some workers of one graph, and the links between them: the first one first.
type crowd struct {
	next    func(below int) int
	pairs   []pair
	batches map[[2]int][][]byte
	under   map[[2]int][]api.Message
	often   map[string]int // by the act and the number that is answered
}

func crowdOf(t *testing.T, raw api.Graph, workers int, next func(below int) int, often map[string]int) *crowd {
	c := &crowd{next: next, batches: map[[2]int][][]byte{}, under: map[[2]int][]api.Message{}, often: often}
	for self := range workers {
		c.pairs = append(c.pairs, pair{begin(t, raw, workers, self), plainOf(raw, workers, self)})
	}
	return c
}

// copied is another crowd of copies, with the same on its links.
func (c *crowd) copied() *crowd {
	d := *c
	d.pairs = nil
	for _, x := range c.pairs {
		d.pairs = append(d.pairs, x.copied())
	}
	d.batches, d.under = maps.Clone(c.batches), maps.Clone(c.under)
	for link, l := range d.batches {
		d.batches[link] = slices.Clip(l)
	}
	for link, l := range d.under {
		d.under[link] = slices.Clip(l)
	}
	return &d
}

// time is one of few, so that they come again, and of which some are great; mostly it fits.
func (c *crowd) time(arity int) api.Time {
	if c.next(30) == 0 {
		arity = api.MaxArity
	}
	var numbers [api.MaxArity]uint64
	for i := range arity {
		numbers[i] = []uint64{0, 0, 1, 1, 2, 3, 4, 6, 63, last - 1, last}[c.next(9+c.next(3))]
	}
	return at(numbers[:]...)
}

func (c *crowd) record() api.Record {
	return rec(uint64(c.next(6)), []uint64{0, 1, 2, 3, 1 << 63, last}[c.next(6)])
}

// one is one of so many numbers from 0 on, or, now and then, one beside them.
func (c *crowd) one(many int) int { return c.next(many+1+c.next(2)) - c.next(2) }

// of is a node of a kind; false: there is none, or another one is drawn.
func (c *crowd) of(kind int) (int, bool) {
	nodes := c.pairs[0].p.raw.Nodes
	var l []int
	for i, n := range nodes {
		if n.Kind == kind {
			l = append(l, i)
		}
	}
	if len(l) == 0 || c.next(12) == 0 {
		return c.one(len(nodes)), false
	}
	return l[c.next(len(l))], true
}

// cap is a capability; false: none is held, or any number is drawn.
func (c *crowd) cap(p plain) (api.Held, bool) {
	if len(p.held) == 0 || c.next(12) == 0 {
		return api.Held{ID: c.next(9) - 1}, false
	}
	return p.held[c.next(len(p.held))], true
}

// taking is a place of a free node at which something waits; false: there is none, or any place is drawn.
func (c *crowd) taking(p plain) (int, bool) {
	var l []int
	for _, m := range p.waiting {
		if node, _ := p.inPlace(m.At); p.kind(node) == api.KFree {
			l = append(l, m.At)
		}
	}
	if len(l) == 0 || c.next(12) == 0 {
		return c.one(p.table.Places()), false
	}
	return l[c.next(len(l))], true
}

// behind is a time that is mostly at or behind another one.
func (c *crowd) behind(t api.Time, arity int) api.Time {
	u := c.time(arity)
	if c.next(6) == 0 {
		return u
	}
	return api.Time{A: max(t.A, u.A), B: max(t.B, u.B), C: max(t.C, u.C)}
}

func (c *crowd) room() int { return []int{wide, wide, wide, 2, 1, 0, -1}[c.next(7)] }

// ask is an act of a worker. Where there is nothing of the kind that is drawn, it mostly steps.
func (c *crowd) ask(p plain) asked {
	node, input := c.of(api.KInput)
	h, some := c.cap(p)
	place, comes := c.taking(p)
	arity := p.raw.Arity
	kind, seldom := c.next(20), c.next(8) == 0
	switch {
	case kind < 5 && (input || seldom):
		return send(node, c.behind(p.epochs[node], arity), c.record(), c.room())
	case kind == 5 && (input || seldom):
		return advance(node, c.behind(p.epochs[node], arity))
	case kind == 6 && c.next(3) == 0 && (input || seldom):
		return shut(node)
	case kind < 10 && (comes || seldom):
		return take(place)
	case kind == 10 && (some || seldom):
		return clone(h.ID)
	case kind == 11 && (some || seldom):
		return lower(h.ID, c.behind(h.S.T, arity))
	case kind == 12 && (some || seldom) && c.next(2) == 0:
		return drop(h.ID)
	case kind < 15 && (some || seldom):
		return emit(h.ID, c.behind(h.S.T, arity), c.record(), c.room())
	case kind < 17 && seldom:
		return run(c.one(len(p.raw.Nodes)), c.room())
	case kind < 17:
		if node, is := c.of(api.KMap + c.next(api.KProbe-api.KInput)); is {
			return run(node, c.room())
		}
	}
	return step(c.room())
}

// acts lets a worker act, and puts what comes of it on the links.
func (c *crowd) acts(t *testing.T, self int) {
	t.Helper()
	a := c.ask(c.pairs[self].p)
	x := c.pairs[self].does(t, a)
	c.often[fmt.Sprint(a.name, " ", int(x.e))]++
	for to := range c.pairs {
		if to != self && len(x.done.Batch) > 0 {
			c.batches[[2]int{self, to}] = append(c.batches[[2]int{self, to}], x.done.Batch)
		}
	}
	for _, o := range x.done.Out {
		c.under[[2]int{self, o.Worker}] = append(c.under[[2]int{self, o.Worker}], o.M)
	}
}

// comes takes what is first on the links from a worker to another one.
func (c *crowd) comes(t *testing.T, from, to int) {
	t.Helper()
	link := [2]int{from, to}
	if l := c.batches[link]; len(l) > 0 && c.next(2) == 0 {
		c.pairs[to].hears(t, l[0])
		c.batches[link] = l[1:]
	}
	if l := c.under[link]; len(l) > 0 && c.next(2) == 0 {
		c.pairs[to].passes(t, l[0])
		c.under[link] = l[1:]
	}
}

// odd lets something come that no worker made.
func (c *crowd) odd(t *testing.T, self int) {
	t.Helper()
	x := &c.pairs[self]
	arity, places := x.p.raw.Arity, x.p.table.Places()
	if c.next(2) == 0 {
		e := x.passes(t, api.Message{At: c.one(places), T: c.time(arity), R: c.record()})
		c.often[fmt.Sprint("Pass ", int(e))]++
		return
	}
	counts, known := map[api.Stamp]int64{}, listed(x.p.counts)
	for range 1 + c.next(3) {
		s := api.Stamp{At: max(0, c.one(places)), T: c.time(arity)}
		if len(known) > 0 && c.next(2) == 0 {
			s = known[c.next(len(known))].S
		}
		counts[s] = []int64{-2, -1, 1, 2, most, most - x.p.counts[s], max(-most, -most-x.p.counts[s])}[c.next(7)]
	}
	b, _ := batch.Put(listed(counts))
	if c.next(4) == 0 {
		b = b[:c.next(len(b)+1)]
	}
	c.often[fmt.Sprint("Hear ", int(x.hears(t, b)))]++
}

// goesOn is one more thing that happens.
func (c *crowd) goesOn(t *testing.T, odd int) {
	t.Helper()
	self, other := c.next(len(c.pairs)), c.next(len(c.pairs))
	switch {
	case c.next(100) < odd:
		c.odd(t, self)
	case self != other:
		c.comes(t, self, other)
	default:
		c.acts(t, self)
	}
}

// answersOfActs are the numbers that each kind of act may answer.
func answersOfActs() map[string][]api.Errno {
	return map[string][]api.Errno{
		"Send":    {api.OK, api.ErrNode, api.ErrArity, api.ErrClosed, api.ErrEpoch, api.ErrFull, api.ErrRange},
		"Advance": {api.OK, api.ErrNode, api.ErrArity, api.ErrClosed, api.ErrEpoch},
		"Close":   {api.OK, api.ErrNode, api.ErrClosed},
		"Take":    {api.OK, api.ErrPlace, api.ErrEmpty, api.ErrRange},
		"Clone":   {api.OK, api.ErrCap, api.ErrRange},
		"Lower":   {api.OK, api.ErrCap, api.ErrArity, api.ErrBack},
		"Drop":    {api.OK, api.ErrCap},
		"Emit":    {api.OK, api.ErrCap, api.ErrArity, api.ErrBack, api.ErrFull, api.ErrRange},
		"Run":     {api.OK, api.ErrNode, api.ErrFull},
		"Step":    {api.OK, api.ErrFull, api.ErrRange},
		"Pass":    {api.OK, api.ErrPlace, api.ErrArity},
		"Hear":    {api.OK, api.ErrPlace, api.ErrArity, api.ErrRange, api.ErrShort},
	}
}

func TestDrawnScripts(t *testing.T) { // P25.1 to P25.8, P3, P4
	often := map[string]int{}
	catches, sums := 0, 0
	for seed := range uint64(700) {
		next := draws.Numbers(seed)
		raw := draws.Lively(next)
		c := crowdOf(t, raw, 1+next(4), next, often)
		odd := 20 * next(2)
		for range 120 {
			c.goesOn(t, odd)
			if next(4) == 0 {
				c.pairs[next(len(c.pairs))].holds(t)
			}
			if t.Failed() {
				t.Fatalf("seed %d: %v", seed, raw)
			}
		}
		for _, x := range c.pairs {
			x.holds(t)
			sums += x.p.sums
			for _, l := range x.p.caught {
				catches += len(l)
			}
		}
		if t.Failed() {
			t.Fatalf("seed %d: %v", seed, raw)
		}
	}
	for name, l := range answersOfActs() {
		for _, e := range l {
			if often[fmt.Sprint(name, " ", int(e))] < 5 {
				t.Errorf("drawn: %s has answered %d only %d times", name, e, often[fmt.Sprint(name, " ", int(e))])
			}
		}
	}
	if min(catches, sums) < 500 {
		t.Errorf("drawn: %d are caught, %d sums are told", catches, sums)
	}
}

func TestDrawnScriptsOfGreatGraphs(t *testing.T) { // P25.1 to P25.8
	places := 0
	for seed := range uint64(60) {
		next := draws.Numbers(seed)
		raw := draws.Coded(next, draws.Advancing(next, api.MaxNodes+1, api.MaxEdges+1))
		c := crowdOf(t, raw, 1+next(api.MaxWorkers), next, map[string]int{})
		for range 150 {
			c.goesOn(t, 3)
		}
		for _, x := range c.pairs {
			x.holds(t)
		}
		places = max(places, c.pairs[0].p.table.Places())
		if t.Failed() {
			t.Fatalf("seed %d: %v", seed, raw)
		}
	}
	if places < 50 {
		t.Errorf("drawn: at most %d places", places)
	}
}

// global is all tokens that there are, on links too.
func (c *crowd) global() []api.Change {
	var l []api.Change
	for _, x := range c.pairs {
		l = append(l, x.w.Tokens()...)
	}
	for _, under := range c.under {
		for _, m := range under {
			l = append(l, api.Change{S: api.Stamp{At: m.At, T: m.T}, N: 1})
		}
	}
	return less(l, nil)
}

// safe holds that all times to which a token could come are open in all views.
func (c *crowd) safe(t *testing.T) {
	t.Helper()
	table := c.pairs[0].p.table
	for _, token := range c.global() {
		for place := range table.Places() {
			for _, u := range table.Front(place, token.S) {
				for self, x := range c.pairs {
					if !x.w.Open(place, u) {
						t.Errorf("%v could come to %d at %v, which is done for worker %d", token, place, u, self)
					}
				}
			}
		}
	}
}

func TestDrawnWorkersAreSafeAndExact(t *testing.T) { // DOC.md, P6 and P7
	for seed := range uint64(150) {
		next := draws.Numbers(seed)
		raw := draws.Lively(next)
		c := crowdOf(t, raw, 1+next(4), next, map[string]int{})
		for range 100 {
			c.goesOn(t, 0)
			if next(5) == 0 {
				c.safe(t)
			}
		}
		for link, l := range c.batches {
			for _, b := range l {
				c.pairs[link[1]].hears(t, b)
			}
		}
		for _, x := range c.pairs {
			counts(t, x.w, c.global()...)
		}
		if t.Failed() {
			t.Fatalf("seed %d: %v", seed, raw)
		}
	}
}
