package probe

import (
	"slices"
	"testing"

	"sluice/api"
	"sluice/draws"
)

// before is the order of catches, number by number.
func before(c, d api.Caught) bool {
	numbers := func(c api.Caught) []uint64 { return []uint64{c.T.A, c.T.B, c.T.C, c.R.Key, c.R.Val} }
	other := numbers(d)
	for i, n := range numbers(c) {
		if n != other[i] {
			return n < other[i]
		}
	}
	return false
}

// plain is a probe by the words of the promises: all catches, each put where it belongs when it comes.
type plain struct{ all []api.Caught }

func (p *plain) catch(l []api.Caught) {
	for _, c := range l {
		i := 0
		for i < len(p.all) && before(p.all[i], c) {
			i++
		}
		p.all = slices.Insert(p.all, i, c)
	}
}

func (p *plain) copied() *plain { return &plain{slices.Clone(p.all)} }

// permuted calls do with every order of a list.
func permuted(l []api.Caught, do func(l []api.Caught)) {
	var down func(i int)
	down = func(i int) {
		if i == len(l) {
			do(slices.Clone(l))
			return
		}
		for j := i; j < len(l); j++ {
			l[i], l[j] = l[j], l[i]
			down(i + 1)
			l[i], l[j] = l[j], l[i]
		}
	}
	down(0)
}

// inPieces is one that has caught a list in calls: where a bit of cuts is set, another call begins behind that catch.
func inPieces(l []api.Caught, cuts int) *Probe {
	p := New()
	begin := 0
	for i := range l {
		if cuts&(1<<i) != 0 || i == len(l)-1 {
			p.Catch(l[begin : i+1]...)
			begin = i + 1
		}
	}
	return p
}

func TestEveryOrderAndAllPieces(t *testing.T) { // P24.4
	for _, want := range [][]api.Caught{
		{caught(at(0, 2), 5, 8), caught(at(0, 2), 5, 8), caught(at(1, 0), 5, 7), caught(at(1, 0), 5, 9)},
		{caught(at(), 0, 0), caught(at(), 0, 1), caught(at(), 1, 0), caught(at(0, 0, 1), 0, 0), caught(at(0, 1), 0, 0)},
		{caught(at(1), 2, 3), caught(at(1), 2, 3), caught(at(1), 2, 3), caught(at(1), 2, top), caught(at(1), half, 0)},
	} {
		several := []api.Time{want[2].T, at(0, 1), at(0, 1, 1)}
		permuted(slices.Clone(want), func(l []api.Caught) {
			for cuts := range 1 << (len(l) - 1) {
				p := inPieces(l, cuts)
				is(t, "All", p.All(), want...)
				done(t, p, several, closed(want, several)...)
				upto(t, p, want[1].T, only(want, func(c api.Caught) bool { return c.T == want[1].T })...)
				of(t, p, want[0].R.Key, only(want, func(c api.Caught) bool { return c.R.Key == want[0].R.Key })...)
				counts(t, p, want[0], len(only(want, func(c api.Caught) bool { return c == want[0] })))
				if p.Len() != len(want) {
					t.Errorf("Len: %d, want %d", p.Len(), len(want))
				}
			}
		})
	}
}

func TestAnyOrderOfMany(t *testing.T) { // P24.4
	for seed := range uint64(60) {
		next := draws.Numbers(seed)
		var p plain
		var l []api.Caught
		for range next(80) {
			l = append(l, drawnCatch(next))
		}
		p.catch(l)
		for range 4 {
			q := New()
			for rest := draws.Mixed(l, next); len(rest) > 0; {
				n := min(next(8), len(rest))
				catches(t, q, rest[:n]...)
				rest = rest[n:]
				if next(3) == 0 { // asked in between
					q.All()
					q.Done(nil)
				}
			}
			hasJust(t, q, p.all...)
		}
	}
}

// number draws small numbers, and those at the ends of both halves of the range.
func number(next func(below int) int) uint64 {
	if next(5) == 0 {
		return []uint64{half - 1, half, top - 1, top}[next(4)]
	}
	return uint64(next(3))
}

func drawnTime(next func(below int) int) api.Time {
	return at(number(next), number(next), uint64(next(2)))
}

func drawnCatch(next func(below int) int) api.Caught {
	return caught(drawnTime(next), number(next), number(next))
}

func drawnTimes(next func(below int) int) []api.Time {
	var l []api.Time
	for range next(5) {
		l = append(l, drawnTime(next))
	}
	return l
}

// pair is a probe and what is to be told of it.
type pair struct {
	probe *Probe
	plain *plain
}

// told does one call of the four at both, drawn by next.
func (x pair) told(next func(below int) int) (got, want []api.Caught) {
	switch all := x.plain.all; next(4) {
	case 0:
		u := drawnTime(next)
		return x.probe.Upto(u), only(all, func(c api.Caught) bool { return c.T.A <= u.A && c.T.B <= u.B && c.T.C <= u.C })
	case 1:
		l := drawnTimes(next)
		return x.probe.Done(l), closed(all, l)
	case 2:
		key := number(next)
		return x.probe.Of(key), only(all, func(c api.Caught) bool { return c.R.Key == key })
	default:
		return x.probe.All(), all
	}
}

// often is how many answers of each kind the draws have had.
type often struct{ none, some, all, twice int }

// drawn does one call of both, drawn by next; false: they are not answered alike.
func (x pair) drawn(next func(below int) int, seen *often) bool {
	switch draw := next(10); {
	case draw < 3:
		var l []api.Caught
		for range next(4) {
			l = append(l, drawnCatch(next))
			if len(x.plain.all) > 0 && next(3) == 0 {
				l = append(l, x.plain.all[next(len(x.plain.all))])
			}
		}
		x.plain.catch(l)
		x.probe.Catch(l...)
		return true
	case draw < 6:
		c := drawnCatch(next)
		if len(x.plain.all) > 0 && next(4) > 0 {
			c = x.plain.all[next(len(x.plain.all))]
		}
		n := x.probe.Count(c)
		if n > 1 {
			seen.twice++
		}
		return n == len(only(x.plain.all, func(d api.Caught) bool { return d == c }))
	}
	got, want := x.told(next)
	switch len(want) {
	case 0:
		seen.none++
	case len(x.plain.all):
		seen.all++
	default:
		seen.some++
	}
	return slices.Equal(got, want)
}

func TestDrawnCalls(t *testing.T) { // P24.1 to P24.4, P3, P5
	var seen often
	for seed := range uint64(100) {
		next := draws.Numbers(seed)
		pairs := []pair{{New(), &plain{}}}
		for i := range 250 {
			j := next(len(pairs))
			if !pairs[j].drawn(next, &seen) {
				t.Fatalf("seed %d, call %d, of the one %d: not by the words", seed, i, j)
			}
			if len(pairs) < 4 && next(40) == 0 {
				pairs = append(pairs, pair{pairs[j].probe.Copy(), pairs[j].plain.copied()})
			}
			for k, x := range pairs {
				if n := x.probe.Len(); n != len(x.plain.all) {
					t.Fatalf("seed %d, call %d, of the one %d: Len %d, want %d", seed, i, k, n, len(x.plain.all))
				}
			}
		}
		for _, x := range pairs {
			hasJust(t, x.probe, x.plain.all...)
		}
	}
	if min(seen.none, seen.some, seen.all, seen.twice) < 500 {
		t.Errorf("the draws are answered only so often: %+v", seen)
	}
}

func TestMany(t *testing.T) { // P24.1 to P24.3
	const many = 60000
	var want []api.Caught
	for i := range uint64(many) {
		want = append(want, caught(at(i/6000, i/600%10, i/60%10), i/6%10, i%6/2)) // each twice
	}
	p := New()
	for rest := draws.Mixed(want, draws.Numbers(8)); len(rest) > 0; rest = rest[1000:] {
		catches(t, p, rest[:1]...)
		catches(t, p, rest[1:1000]...)
	}
	is(t, "All", p.All(), want...)
	done(t, p, []api.Time{at(3)}, want[:18000]...)
	done(t, p, []api.Time{at(1), at(0, 5)}, want[:3000]...)
	upto(t, p, at(2, 9, 9), want[:18000]...)
	upto(t, p, at(0, 0, 0), want[:60]...)
	for key := range uint64(10) {
		if l := p.Of(key); len(l) != many/10 {
			t.Errorf("of the key %d are %d", key, len(l))
		}
	}
	for i := 0; i < many; i += 601 {
		counts(t, p, want[i], 2)
	}
	counts(t, p, caught(at(1), 1, 3), 0)
}

func TestOneOfManyTimes(t *testing.T) { // P24.3
	const many = 100000
	c, other := caught(at(1, 1), 1, 1), caught(at(1, 1), 1, 2)
	p := New()
	for range many / 10 {
		p.Catch(slices.Repeat([]api.Caught{c}, 10)...)
	}
	catches(t, p, other)
	counts(t, p, c, many)
	counts(t, p, other, 1)
	if p.Len() != many+1 || len(p.All()) != many+1 || p.All()[many] != other || len(p.Done([]api.Time{at(1, 1)})) != 0 {
		t.Error("what was caught many times isn't there so often")
	}
}
