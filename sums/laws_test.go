package sums

import (
	"slices"
	"testing"

	"sluice/api"
	"sluice/draws"
	"sluice/stamp"
)

// plain is sums by the words of the promises: all records that ever came, and which of them were told.
type plain struct{ ever []came }

type came struct {
	time api.Time
	r    api.Record
	told bool
}

// before is the order of telling, number by number.
func before(t, u api.Time) bool {
	switch {
	case t.A != u.A:
		return t.A < u.A
	case t.B != u.B:
		return t.B < u.B
	}
	return t.C < u.C
}

func (p *plain) holds(t api.Time) bool {
	return slices.ContainsFunc(p.ever, func(c came) bool { return c.time == t && !c.told })
}

func (p *plain) add(t api.Time, r api.Record) bool {
	first := !p.holds(t)
	p.ever = append(p.ever, came{t, r, false})
	return first
}

// times: each new one is put where it belongs among those that are there.
func (p *plain) times() []api.Time {
	var l []api.Time
	for _, c := range p.ever {
		if c.told {
			continue
		}
		i := 0
		for i < len(l) && before(l[i], c.time) {
			i++
		}
		if i == len(l) || l[i] != c.time {
			l = slices.Insert(l, i, c.time)
		}
	}
	return l
}

func (p *plain) tell(t api.Time) []api.Record {
	var l []api.Record
	for i, c := range p.ever {
		if c.told || c.time != t {
			continue
		}
		p.ever[i].told = true
		j := 0
		for j < len(l) && l[j].Key < c.r.Key {
			j++
		}
		if j == len(l) || l[j].Key != c.r.Key {
			l = slices.Insert(l, j, api.Record{Key: c.r.Key})
		}
		l[j].Val += c.r.Val
	}
	return l
}

func (p *plain) copied() *plain { return &plain{slices.Clone(p.ever)} }

// pair is sums and what is to be told of them.
type pair struct {
	sums  *Sums
	plain *plain
}

// number draws small numbers, and those at the ends of both halves of the range.
func number(next func(below int) int) uint64 {
	if next(5) == 0 {
		return []uint64{half - 1, half, top - 1, top}[next(4)]
	}
	return uint64(next(3))
}

func timeOf(next func(below int) int) api.Time {
	return at(number(next), number(next), uint64(next(2)))
}

func timesOf(next func(below int) int) []api.Time {
	var l []api.Time
	for range next(4) {
		l = append(l, at(uint64(next(4)), uint64(next(4)), uint64(next(2))))
	}
	return l
}

// said is how many answers of each kind the draws have had.
type said struct{ first, again, told, none, ready int }

// drawn does one call of both, drawn by next; false: they are not answered alike.
func (x pair) drawn(next func(below int) int, often *said) bool {
	switch draw := next(16); {
	case draw < 9:
		t, r := timeOf(next), rec(number(next), number(next))
		first := x.sums.Add(t, r)
		if first {
			often.first++
		} else {
			often.again++
		}
		return first == x.plain.add(t, r)
	case draw < 12:
		l := timesOf(next)
		got := x.sums.Ready(l)
		if len(got) > 0 && len(got) < len(x.plain.times()) {
			often.ready++
		}
		return slices.Equal(got, done(x.plain.times(), l))
	}
	t := timeOf(next)
	if l := x.plain.times(); len(l) > 0 && next(3) > 0 {
		t = l[next(len(l))]
	}
	got := x.sums.Tell(t)
	if len(got) > 0 {
		often.told++
	} else {
		often.none++
	}
	return slices.Equal(got, x.plain.tell(t))
}

func TestDrawnCalls(t *testing.T) { // P22.1 to P22.4, P3, P5
	var often said
	for seed := range uint64(100) {
		next := draws.Numbers(seed)
		pairs := []pair{{New(), &plain{}}}
		for i := range 300 {
			j := next(len(pairs))
			if !pairs[j].drawn(next, &often) {
				t.Fatalf("seed %d, call %d, of the one %d: not by the words", seed, i, j)
			}
			if len(pairs) < 4 && next(40) == 0 {
				pairs = append(pairs, pair{pairs[j].sums.Copy(), pairs[j].plain.copied()})
			}
			for k, x := range pairs {
				if l := x.sums.Times(); !slices.Equal(l, x.plain.times()) {
					t.Fatalf("seed %d, call %d, of the one %d: Times %v, want %v", seed, i, k, l, x.plain.times())
				}
			}
		}
		for k, x := range pairs {
			for _, u := range x.sums.Times() {
				if l, want := x.sums.Tell(u), x.plain.tell(u); !slices.Equal(l, want) {
					t.Fatalf("seed %d, at the end, of the one %d: Tell(%v) %v, want %v", seed, k, u, l, want)
				}
			}
			isEmpty(t, x.sums)
		}
	}
	if min(often.first, often.again, often.told, often.none, often.ready) < 500 {
		t.Errorf("the draws are answered only so often: %+v", often)
	}
}

func TestAnyOrderOfRecords(t *testing.T) { // P22.5
	for seed := range uint64(100) {
		next := draws.Numbers(seed)
		var l []came
		for range 1 + next(60) {
			l = append(l, came{time: timeOf(next), r: rec(number(next), number(next))})
		}
		p := plain{slices.Clone(l)}
		var want []of
		for _, u := range p.times() {
			want = append(want, has(u, p.tell(u)...))
		}
		for range 5 {
			s := New()
			first := 0
			for _, c := range draws.Mixed(l, next) {
				if s.Add(c.time, c.r) {
					first++
				}
			}
			if first != len(want) {
				t.Errorf("seed %d: %d were the first of their times, want %d", seed, first, len(want))
			}
			hasJust(t, s, want...)
		}
	}
}

func TestALongerListHasLessReady(t *testing.T) { // P22.5
	less := 0
	for seed := range uint64(300) {
		next := draws.Numbers(seed)
		s := New()
		for range next(40) {
			s.Add(timeOf(next), rec(number(next), number(next)))
		}
		ready(t, s, nil, s.Times()...)
		for range 10 {
			long := slices.Concat(timesOf(next), timesOf(next))
			short := slices.DeleteFunc(slices.Clone(long), func(api.Time) bool { return next(2) == 0 })
			few, many := s.Ready(draws.Mixed(long, next)), s.Ready(short)
			for _, u := range few {
				if !slices.Contains(many, u) {
					t.Errorf("seed %d: %v is ready at %v, not at %v", seed, u, long, short)
				}
			}
			if len(few) < len(many) {
				less++
			}
			// It is the front of a list alone that counts.
			ready(t, s, stamp.Front(long...), few...)
		}
	}
	if less < 500 {
		t.Errorf("a longer list has less ready only %d times", less)
	}
}

func TestManyTimes(t *testing.T) { // P22.2, P22.3
	const many = 30000
	s := New()
	next := draws.Numbers(9)
	var all []api.Time
	for i := range uint64(many) {
		all = append(all, at(i/1000, i/10%100, i%10))
	}
	for _, u := range draws.Mixed(all, next) {
		adds(t, s, true, u, rec(u.C+1, u.A), rec(u.C, u.B))
	}
	holds(t, s, all...)
	ready(t, s, []api.Time{at(3)}, all[:3000]...)
	ready(t, s, []api.Time{at(1), at(0, 50)}, all[:500]...)
	c := s.Copy()
	for _, u := range draws.Mixed(all, next) {
		adds(t, s, false, u, rec(u.C, 5))
		tells(t, s, u, rec(u.C, u.B+5), rec(u.C+1, u.A))
	}
	isEmpty(t, s)
	for _, u := range c.Ready([]api.Time{at(1)}) {
		tells(t, c, u, rec(u.C, u.B), rec(u.C+1, u.A))
	}
	holds(t, c, all[1000:]...)
}

func TestManyKeys(t *testing.T) { // P22.2, P22.3
	const many = 50000
	s := New()
	next := draws.Numbers(4)
	var want []api.Record
	for i := range uint64(many) {
		want = append(want, rec(i*(top/many), i))
	}
	adds(t, s, true, at(1, 1), draws.Mixed(want, next)...)
	adds(t, s, true, at(1), draws.Mixed(want, next)[:many/2]...)
	adds(t, s, false, at(1, 1), rec(1, 8), rec(0, top))
	holds(t, s, at(1), at(1, 1))
	c := s.Copy()
	told := slices.Concat([]api.Record{rec(0, top), rec(1, 8)}, want[1:])
	tells(t, s, at(1, 1), told...)
	tells(t, c, at(1, 1), told...)
	holds(t, s, at(1))
	if l := s.Tell(at(1)); len(l) != many/2 {
		t.Errorf("%d records are told, want %d", len(l), many/2)
	}
	isEmpty(t, s)
	holds(t, c, at(1))
}
