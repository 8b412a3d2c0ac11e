package multi

import (
	"maps"
	"slices"
	"testing"

	"sluice/api"
	"sluice/draws"
	"sluice/stamp"
)

// plain is counts by the words of the promises.
type plain map[api.Time]int64

func inRange(n int64) bool { return -most <= n && n <= most }

// apply is the counts behind a list; false: it is refused.
func (p plain) apply(l []api.Delta) (plain, bool) {
	q := maps.Clone(p)
	ok := true
	for _, d := range l {
		q[d.T] += d.N
		ok = ok && inRange(d.N)
	}
	for _, n := range q {
		ok = ok && inRange(n)
	}
	return q, ok
}

// front is the times with a count above 0 of which no other such one is at or ahead.
func (p plain) front() []api.Time {
	var front []api.Time
	for t, n := range p {
		least := n > 0
		for u, k := range p {
			least = least && !(k > 0 && u != t && stamp.Ahead(u, t))
		}
		if least {
			front = append(front, t)
		}
	}
	slices.SortFunc(front, stamp.Compare)
	return front
}

// list is the counts that aren't 0.
func (p plain) list() []api.Delta {
	var l []api.Delta
	for t, n := range p {
		if n != 0 {
			l = append(l, api.Delta{T: t, N: n})
		}
	}
	slices.SortFunc(l, toldFirst)
	return l
}

func toldFirst(a, b api.Delta) int { return stamp.Compare(a.T, b.T) }

// turned is what leads from one front to another, by the words of P5.2.
func turned(was, is []api.Time) []api.Delta {
	var l []api.Delta
	for _, t := range was {
		if !slices.Contains(is, t) {
			l = append(l, api.Delta{T: t, N: -1})
		}
	}
	for _, t := range is {
		if !slices.Contains(was, t) {
			l = append(l, api.Delta{T: t, N: 1})
		}
	}
	slices.SortFunc(l, toldFirst)
	return l
}

// time draws one of few, so that they come again and hide one another.
func time(next func(int) int) api.Time {
	return api.Time{A: uint64(next(4)), B: uint64(next(4)), C: uint64(next(3))}
}

// smallList draws deltas that stay far from the ends of the range.
func smallList(next func(int) int, many int) []api.Delta {
	l := make([]api.Delta, many)
	for i := range l {
		l[i] = api.Delta{T: time(next), N: int64(next(6)) - 3}
	}
	return l
}

// anyList draws deltas of which some are at the ends of the range.
func anyList(next func(int) int) []api.Delta {
	l := smallList(next, next(6))
	for i := range l {
		switch next(20) {
		case 0:
			l[i].N += most
		case 1:
			l[i].N -= most
		}
	}
	return l
}

func TestAnyCallsGoByTheWords(t *testing.T) { // P5.2 to P5.4, P5.6
	refused := 0
	for seed := range uint64(150) {
		next := draws.Numbers(seed)
		multis, plains := [2]*Multi{New(), New()}, [2]plain{{}, {}}
		for range 60 {
			i := next(2)
			m, l := multis[i], anyList(next)
			will, ok := plains[i].apply(l)
			switch {
			case next(12) == 0:
				multis[1-i], plains[1-i] = m.Copy(), maps.Clone(plains[i])
			case !ok:
				refused++
				refuses(t, m, l...)
			default:
				tells(t, m, l, turned(plains[i].front(), will.front())...)
				plains[i] = will
			}
			for i, m := range multis {
				holds(t, m, plains[i].list()...)
				fronts(t, m, plains[i].front()...)
				x := time(next)
				opens(t, m, stamp.Open(plains[i].front(), x), x)
			}
			if t.Failed() {
				t.Fatalf("seed %d", seed)
			}
		}
	}
	if refused < 100 {
		t.Errorf("only %d lists were refused", refused)
	}
}

// inParts applies a list in parts of drawn lengths: all that was told, added up.
func inParts(t *testing.T, m *Multi, l []api.Delta, next func(int) int) []api.Delta {
	t.Helper()
	told := plain{}
	for len(l) > 0 {
		n := 1 + next(min(len(l), 7))
		part, e := m.Apply(l[:n]...)
		if e != api.OK {
			t.Fatalf("Apply(%v) = %d", l[:n], e)
		}
		told, _ = told.apply(part)
		l = l[n:]
	}
	return told.list()
}

func TestDeltasInPartsAndInAnyOrder(t *testing.T) { // P5.5
	for seed := range uint64(150) {
		next := draws.Numbers(seed)
		begin := of(t, smallList(next, 10)...)
		l := smallList(next, 30)
		whole := begin.Copy()
		want, _ := whole.Apply(l...)
		for range 6 {
			m := begin.Copy()
			if told := inParts(t, m, draws.Mixed(l, next), next); !slices.Equal(told, want) {
				t.Errorf("told in parts: %v, at once: %v", told, want)
			}
			holds(t, m, countsOf(whole)...)
			fronts(t, m, whole.Front()...)
		}
		// A delta may be split into such as add up to it.
		var split []api.Delta
		for _, d := range l {
			n := int64(next(5)) - 2
			split = append(split, api.Delta{T: d.T, N: n}, api.Delta{T: d.T, N: d.N - n})
		}
		m := begin.Copy()
		tells(t, m, split, want...)
		holds(t, m, countsOf(whole)...)
		if t.Failed() {
			t.Fatalf("seed %d", seed)
		}
	}
}

func TestAFrontIsTheSumOfAllThatWasTold(t *testing.T) { // P5.5
	for seed := range uint64(150) {
		next := draws.Numbers(seed)
		m, told := New(), plain{}
		for range 40 {
			part, e := m.Apply(anyList(next)...)
			if e != api.OK && len(part) != 0 {
				t.Fatalf("seed %d: %v beside an error", seed, part)
			}
			told, _ = told.apply(part)
			want := turned(nil, m.Front())
			if !slices.Equal(told.list(), want) {
				t.Fatalf("seed %d: told %v, the front is %v", seed, told.list(), want)
			}
		}
	}
}

func TestManyTimesComeAndGo(t *testing.T) { // P5.3, P5.4
	const many = 400
	next := draws.Numbers(5)
	var come, gone []api.Delta
	var times []api.Time
	for a := range uint64(many) {
		times = append(times, at(a, many-a))
		come = append(come, by(a, many-a, 1))
		gone = append(gone, by(a, many-a, -1))
	}
	m := New()
	for _, d := range draws.Mixed(come, next) {
		tells(t, m, []api.Delta{d}, d)
	}
	fronts(t, m, times...)
	tells(t, m, []api.Delta{by(0, 0, 1)}, slices.Concat([]api.Delta{by(0, 0, 1)}, gone)...)
	tells(t, m, []api.Delta{by(0, 0, -1)}, slices.Concat([]api.Delta{by(0, 0, -1)}, come)...)
	for _, d := range draws.Mixed(gone, next) {
		tells(t, m, []api.Delta{d}, d)
	}
	holds(t, m)
	fronts(t, m)
}
