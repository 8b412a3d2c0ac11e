package view

import (
	"bytes"
	"slices"
	"testing"

	"sluice/api"
	"sluice/batch"
	"sluice/draws"
	"sluice/reach"
)

// drawer draws changes at places of a graph, and some that may not be.
type drawer struct {
	next          func(below int) int
	places, arity int
}

// time is one of few, so that they come again and hide one another, and of which some are close to the greatest.
func (d drawer) time(arity int) api.Time {
	var numbers [api.MaxArity]uint64
	for i := range arity {
		numbers[i] = []uint64{0, 0, 0, 1, 2, 3, 4, 5, 6, 1 << 63, last - 1, last}[d.next(12)]
	}
	return at(numbers[:]...)
}

// list has changes that stay far from the ends of the range, at places alone.
func (d drawer) list() []api.Change {
	var l []api.Change
	for range d.next(6) {
		if d.places > 0 {
			l = append(l, api.Change{S: api.Stamp{At: d.next(d.places), T: d.time(d.arity)}, N: int64(d.next(6)) - 2})
		}
	}
	return l
}

// any has changes of which some may not be, or are at the ends of the range.
func (d drawer) any() []api.Change {
	l := d.list()
	for i := range l {
		switch d.next(40) {
		case 0:
			l[i].S.At = d.places + d.next(2)
		case 1:
			l[i].S.At = -1 - d.next(2)
		case 2:
			l[i].S.T = d.time(api.MaxArity)
		case 3, 4:
			l[i].N += most
		case 5, 6:
			l[i].N -= most
		}
	}
	return l
}

// away takes some of all counts to 0.
func (d drawer) away(p plain) []api.Change {
	var l []api.Change
	for _, c := range p.list() {
		if d.next(3) == 0 {
			l = append(l, api.Change{S: c.S, N: -c.N})
		}
	}
	return l
}

// batch is the bytes of a list, mostly as they are; else some of them are taken away, put in, or written over.
func (d drawer) batch(l []api.Change) []byte {
	for i := range l {
		l[i].S.At = min(max(l[i].S.At, 0), 191) // bytes have no other places
	}
	b, _ := batch.Put(inForm(l))
	if d.next(3) > 0 {
		return b
	}
	some := []byte{0, 1, 2, 127, 128, 192, 255}
	from := d.next(len(b) + 1)
	to := min(len(b), from+d.next(3))
	more := []byte{some[d.next(len(some))], some[d.next(len(some))]}[:d.next(3)]
	return slices.Concat(b[:from], more, b[to:])
}

// pair is a view and what is to be told of it.
type pair struct {
	view  *View
	plain plain
}

// holds holds all that a view tells against the plain one.
func (x pair) holds(t *testing.T, d drawer) {
	t.Helper()
	counts(t, x.view, x.plain.list()...)
	for place := -1; place <= d.places; place++ {
		want := x.plain.front(place)
		fronts(t, x.view, place, want...)
		u := d.time(api.MaxArity)
		opens(t, x.view, place, plainOpen(want, u), u)
	}
}

// owns is one's own of both: the number that is answered.
func (x *pair) owns(t *testing.T, l []api.Change) api.Errno {
	t.Helper()
	want := x.plain.add(l)
	if e := x.view.Own(l); e != want {
		t.Errorf("Own(%v) = %d, want %d", l, e, want)
	}
	return want
}

// hears is the hearing of both: the number that is found in what is answered.
func (x *pair) hears(t *testing.T, b []byte) api.Errno {
	t.Helper()
	fault, e := x.plain.hear(b)
	err := x.view.Hear(b)
	switch {
	case fault != nil:
		want := fault.(*batch.Fault)
		if f, ok := err.(*batch.Fault); !ok || *f != *want {
			t.Errorf("Hear(% x) = %v, want %v", b, err, fault)
		}
		return want.Err
	case e != api.OK:
		carries(t, err, e)
	case err != nil:
		t.Errorf("Hear(% x) = %v", b, err)
	}
	return e
}

func TestDrawnCalls(t *testing.T) { // P17.1 to P17.5, P3, P5
	owned, heard := map[api.Errno]int{}, map[api.Errno]int{}
	wide, below := 0, 0
	for seed := range uint64(700) {
		next := draws.Numbers(seed)
		raw := draws.Advancing(next, 9, 16)
		workers := 1 + next(api.MaxWorkers)
		first := pair{begin(t, raw, workers), plainOf(raw, workers)}
		pairs := [2]pair{first, {first.view.Copy(), first.plain.copied()}}
		d := drawer{next, first.plain.table.Places(), raw.Arity}
		for range 25 {
			i := next(2)
			if next(9) == 0 {
				pairs[1-i] = pair{pairs[i].view.Copy(), pairs[i].plain.copied()}
			}
			l := d.any()
			if next(4) == 0 {
				l = d.away(pairs[i].plain)
			}
			if next(2) == 0 {
				owned[pairs[i].owns(t, l)]++
			} else {
				heard[pairs[i].hears(t, d.batch(l))]++
			}
			for _, x := range pairs {
				x.holds(t, d)
			}
			for place := range d.places {
				wide += len(pairs[i].plain.front(place)) / 2
			}
			for _, c := range pairs[i].plain.list() {
				below += int(min(max(-c.N, 0), 1))
			}
			if t.Failed() {
				t.Fatalf("seed %d: %v", seed, raw)
			}
		}
	}
	for _, e := range []api.Errno{api.OK, api.ErrPlace, api.ErrArity, api.ErrRange} {
		if min(owned[e], heard[e]) < 50 {
			t.Errorf("drawn: %d as one's own %d times, as heard %d times", e, owned[e], heard[e])
		}
	}
	if min(heard[api.ErrShort], heard[api.ErrForm], heard[api.ErrRest], wide, below) < 100 {
		t.Errorf("drawn: heard %v, %d times several in a front, %d counts below 0", heard, wide, below)
	}
}

func TestGreatGraphs(t *testing.T) { // P17.1 to P17.4
	places := 0
	for seed := range uint64(150) {
		next := draws.Numbers(seed)
		raw := draws.Advancing(next, api.MaxNodes+1, api.MaxEdges+1)
		workers := 1 + next(api.MaxWorkers)
		x := pair{begin(t, raw, workers), plainOf(raw, workers)}
		d := drawer{next, x.plain.table.Places(), raw.Arity}
		places = max(places, d.places)
		x.holds(t, d)
		for i := range 12 {
			l := slices.Concat(d.list(), d.list(), d.away(x.plain))
			if i%2 == 0 {
				x.owns(t, l)
			} else {
				x.hears(t, d.batch(l))
			}
			x.holds(t, d)
		}
		if t.Failed() {
			t.Fatalf("seed %d: %v", seed, raw)
		}
	}
	if places < 60 {
		t.Errorf("drawn: at most %d places", places)
	}
}

func TestNewRefusesWhatReachDoes(t *testing.T) { // P17.1, P4
	answered := map[api.Errno]int{}
	for seed := range uint64(1000) {
		next := draws.Numbers(seed)
		raw := draws.Graph(next, 9, 16)
		g := made(t, raw)
		workers := next(api.MaxWorkers+4) - 1
		_, want := reach.New(g)
		if workers < 1 || workers > api.MaxWorkers {
			want = api.ErrWorker
		}
		v, e := New(g, workers)
		if e != want || (v == nil) != (e != api.OK) {
			t.Fatalf("seed %d: New of %d workers = %v, %d, want %d", seed, workers, v, e, want)
		}
		if v != nil {
			counts(t, v, plainOf(raw, workers).list()...)
		}
		answered[e]++
	}
	if min(answered[api.OK], answered[api.ErrCycle], answered[api.ErrWorker]) < 100 {
		t.Errorf("drawn: %v", answered)
	}
}

func TestItTellsWhatReachTells(t *testing.T) { // P17.2 to P17.4
	for seed := range uint64(300) {
		next := draws.Numbers(seed)
		raw := draws.Advancing(next, 9, 16)
		g := made(t, raw)
		workers := 1 + next(api.MaxWorkers)
		v := begin(t, raw, workers)
		r, _ := reach.New(g)
		r.Change(plainOf(raw, workers).list()...)
		d := drawer{next, g.Places(), raw.Arity}
		for range 20 {
			if l := d.any(); next(2) == 0 {
				if e, want := v.Own(l), r.Change(l...); e != want {
					t.Errorf("Own(%v) = %d, reach: %d", l, e, want)
				}
			} else if b := d.batch(l); v.Hear(b) == nil {
				l, _ := batch.Get(b)
				r.Change(l...)
			}
			counts(t, v, r.Counts()...)
			for place := -1; place <= d.places; place++ {
				fronts(t, v, place, r.Front(place)...)
				u := d.time(api.MaxArity)
				opens(t, v, place, r.Open(place, u), u)
			}
		}
		if t.Failed() {
			t.Fatalf("seed %d: %v", seed, raw)
		}
	}
}

func TestHearingIsAsHavingAsOnesOwn(t *testing.T) { // P17.6
	answered := map[api.Errno]int{}
	for seed := range uint64(300) {
		next := draws.Numbers(seed)
		raw := draws.Advancing(next, 9, 16)
		one := begin(t, raw, 1+next(api.MaxWorkers))
		other := one.Copy()
		d := drawer{next, made(t, raw).Places(), raw.Arity}
		for range 20 {
			l := d.any()
			b := d.batch(l)
			l, err := batch.Get(b)
			if err != nil {
				continue
			}
			if anew := put(t, l...); !bytes.Equal(anew, b) {
				t.Fatalf("% x, and anew % x", b, anew)
			}
			e, err := one.Own(l), other.Hear(b)
			if e != api.OK {
				carries(t, err, e)
			} else if err != nil {
				t.Errorf("Hear of %v: %v", l, err)
			}
			answered[e]++
			if !answersOf(one).same(answersOf(other)) {
				t.Fatalf("seed %d: behind %v they tell otherwise: %v", seed, l, raw)
			}
		}
	}
	if min(answered[api.OK], answered[api.ErrPlace], answered[api.ErrArity], answered[api.ErrRange]) < 30 {
		t.Errorf("drawn: %v", answered)
	}
}

func TestBatchesInAnyOrder(t *testing.T) { // P17.6
	came := 0
	for seed := range uint64(200) {
		next := draws.Numbers(seed)
		raw := draws.Advancing(next, 9, 16)
		begun := begin(t, raw, 1+next(api.MaxWorkers))
		d := drawer{next, made(t, raw).Places(), raw.Arity}
		var lists [][]api.Change
		for range 8 {
			lists = append(lists, inForm(d.list()))
		}
		whole := begun.Copy()
		owns(t, whole, slices.Concat(lists...)...)
		want := answersOf(whole)
		came += len(want.counts)
		for range 5 {
			v := begun.Copy()
			for _, l := range draws.Mixed(lists, next) {
				// Some of them may be one's own acts.
				if next(4) == 0 {
					owns(t, v, l...)
				} else {
					hears(t, v, l...)
				}
			}
			if !answersOf(v).same(want) {
				t.Fatalf("seed %d: %v in another order is told otherwise: %v", seed, lists, raw)
			}
		}
	}
	if came < 1000 {
		t.Errorf("only %d counts came", came)
	}
}

// orders are all of a list.
func orders[T any](l []T) [][]T {
	if len(l) == 0 {
		return [][]T{nil}
	}
	var all [][]T
	for i := range l {
		for _, rest := range orders(slices.Concat(l[:i], l[i+1:])) {
			all = append(all, slices.Concat(l[i:i+1], rest))
		}
	}
	return all
}

func TestOrdersInWhichNoneIsRefused(t *testing.T) { // P17.6, P3
	lists := [][]api.Change{{ch(0, most-2, 0)}, {ch(0, -most, 0), ch(6, 1, 1)}, {ch(0, 1, 0), ch(6, -1, 1)}, {ch(0, -2, 0), ch(1, 1, 5)}, {ch(0, most, 0)}, {ch(0, -1, 0), ch(3, -1, 2)}}
	begun := begin(t, round(), 2)
	heard, refused := 0, 0
	for _, order := range orders(lists) {
		v := begun.Copy()
		ok := true
		for _, l := range order {
			kept := answersOf(v)
			if err := v.Hear(put(t, l...)); err != nil {
				carries(t, err, api.ErrRange)
				ok = false
				if !answersOf(v).same(kept) {
					t.Errorf("%v was refused, and has changed something", l)
				}
			}
		}
		if !ok {
			refused++
			continue
		}
		heard++
		counts(t, v, ch(0, most-2, 0), ch(1, 1, 5), ch(3, -1, 2))
		all(t, v, 0, 0, 1, 0, 1, 0, 0)
	}
	if min(heard, refused) < 50 || heard+refused != 720 {
		t.Errorf("%d orders are heard, %d not", heard, refused)
	}
}
