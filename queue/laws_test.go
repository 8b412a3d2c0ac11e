package queue

import (
	"math"
	"slices"
	"testing"

	"sluice/api"
	"sluice/draws"
)

// plain is a queue by the words of the promises: all that ever came, in the order of coming, over all places.
type plain struct {
	places int
	ever   []came
}

type came struct {
	m    api.Message
	gone bool
}

func (p *plain) isPlace(place int) bool { return 0 <= place && place < p.places }

// waiting is where those stand that wait at a place.
func (p *plain) waiting(place int) []int {
	var at []int
	for i, c := range p.ever {
		if c.m.At == place && !c.gone {
			at = append(at, i)
		}
	}
	return at
}

func (p *plain) list(place int) []api.Message {
	var l []api.Message
	for _, i := range p.waiting(place) {
		l = append(l, p.ever[i].m)
	}
	return l
}

func (p *plain) put(m api.Message) api.Errno {
	if !p.isPlace(m.At) {
		return api.ErrPlace
	}
	p.ever = append(p.ever, came{m, false})
	return api.OK
}

func (p *plain) take(place int) (api.Message, api.Errno) {
	if !p.isPlace(place) {
		return api.Message{}, api.ErrPlace
	}
	at := p.waiting(place)
	if len(at) == 0 {
		return api.Message{}, api.ErrEmpty
	}
	p.ever[at[0]].gone = true
	return p.ever[at[0]].m, api.OK
}

func (p *plain) drain(place int) ([]api.Message, api.Errno) {
	if !p.isPlace(place) {
		return nil, api.ErrPlace
	}
	l := p.list(place)
	for _, i := range p.waiting(place) {
		p.ever[i].gone = true
	}
	return l, api.OK
}

// told tells whether s comes ahead of u: by the place, then by the numbers of the time.
func told(s, u api.Stamp) bool {
	switch {
	case s.At != u.At:
		return s.At < u.At
	case s.T.A != u.T.A:
		return s.T.A < u.T.A
	case s.T.B != u.T.B:
		return s.T.B < u.T.B
	}
	return s.T.C < u.T.C
}

// counts is how many wait at each stamp: each new one is put where it belongs among those that are there.
func (p *plain) counts() ([]api.Change, int) {
	var l []api.Change
	total := 0
	for _, c := range p.ever {
		if c.gone {
			continue
		}
		total++
		s := api.Stamp{At: c.m.At, T: c.m.T}
		i := 0
		for i < len(l) && told(l[i].S, s) {
			i++
		}
		if i == len(l) || l[i].S != s {
			l = slices.Insert(l, i, api.Change{S: s})
		}
		l[i].N++
	}
	return l, total
}

func (p *plain) copied() *plain { return &plain{p.places, slices.Clone(p.ever)} }

// pair is a queue and what is to be told of it.
type pair struct {
	queue *Queue
	plain *plain
}

// number draws small numbers, and those at the end of the range.
func number(next func(below int) int) uint64 {
	if next(4) == 0 {
		return top - uint64(next(2))
	}
	return uint64(next(3))
}

func message(at int, next func(below int) int) api.Message {
	t := api.Time{A: number(next), B: number(next), C: number(next)}
	return api.Message{At: at, T: t, R: api.Record{Key: number(next), Val: uint64(next(1000))}}
}

// placeOf draws a place, or a number that is none.
func (x pair) placeOf(next func(below int) int) int {
	switch next(12) {
	case 0:
		return []int{-1, x.plain.places, math.MinInt, math.MaxInt}[next(4)]
	case 1, 2:
		return 0
	}
	return next(x.plain.places+1) - next(2)
}

// drawn does one call of both, drawn by next, and tells how it was answered; false: not alike.
func (x pair) drawn(next func(below int) int) (api.Errno, bool) {
	place := x.placeOf(next)
	switch draw := next(16); {
	case draw == 0:
		l, e := x.queue.Drain(place)
		want, wantE := x.plain.drain(place)
		return e, slices.Equal(l, want) && e == wantE
	case draw < 8:
		one, e := x.queue.Take(place)
		want, wantE := x.plain.take(place)
		return e, one == want && e == wantE
	}
	one := message(place, next)
	e := x.queue.Put(one)
	return e, e == x.plain.put(one)
}

// same tells whether the two tell the same of themselves.
func (x pair) same() bool {
	all, total := x.plain.counts()
	same := slices.Equal(x.queue.Counts(), all) && x.queue.Total() == total
	for place := -1; place <= x.plain.places; place++ {
		l := x.plain.list(place)
		same = same && slices.Equal(x.queue.List(place), l) && x.queue.Len(place) == len(l)
	}
	return same
}

func TestDrawnCalls(t *testing.T) { // P19.1 to P19.4, P3, P5
	var often [api.ErrEmpty + 1]int
	for seed := range uint64(120) {
		next := draws.Numbers(seed)
		places := []int{0, 1, 2, 3, 5, 9}[seed%6]
		pairs := []pair{{begin(t, places), &plain{places: places}}}
		for i := range 160 {
			at := next(len(pairs))
			e, alike := pairs[at].drawn(next)
			if !alike {
				t.Fatalf("seed %d, call %d, of the queue %d: not by the words", seed, i, at)
			}
			often[e]++
			if len(pairs) < 4 && next(20) == 0 {
				pairs = append(pairs, pair{pairs[at].queue.Copy(), pairs[at].plain.copied()})
			}
			for j, x := range pairs {
				if !x.same() {
					t.Fatalf("seed %d, call %d, of the queue %d: Counts %v, Total %d", seed, i, j, x.queue.Counts(), x.queue.Total())
				}
			}
		}
	}
	for _, e := range []api.Errno{api.OK, api.ErrPlace, api.ErrEmpty} {
		if often[e] < 1000 {
			t.Errorf("the draws answer %d only %d times", e, often[e])
		}
	}
}

func TestWhatGoesIsWhatCame(t *testing.T) { // P19.2, P19.3
	for _, places := range []int{1, 4, 192} {
		next := draws.Numbers(uint64(places))
		q := begin(t, places)
		in, out := make([][]api.Message, places), make([][]api.Message, places)
		for range 20000 {
			place := next(places)
			switch draw := next(64); {
			case draw == 0:
				l, e := q.Drain(place)
				if e != api.OK {
					t.Fatalf("Drain(%d): %d", place, e)
				}
				out[place] = append(out[place], l...)
			case draw < 20:
				if one, e := q.Take(place); e == api.OK {
					out[place] = append(out[place], one)
				}
			default:
				one := message(place, next)
				puts(t, q, one)
				in[place] = append(in[place], one)
			}
		}
		many := 0
		for _, c := range q.Counts() {
			many += int(c.N)
		}
		if many != q.Total() || many == 0 {
			t.Errorf("%d by Counts, Total %d", many, q.Total())
		}
		for place := range places {
			l := q.List(place)
			if !slices.Equal(slices.Concat(out[place], l), in[place]) {
				t.Errorf("place %d: what went and what waits is not what came, in its order", place)
			}
			takes(t, q, place, l...)
			isEmpty(t, q, place)
		}
		counts(t, q, 0)
	}
}
