package probe

import (
	"math"
	"slices"
	"testing"

	"sluice/api"
	"sluice/draws"
)

const (
	half = 1 << 63
	top  = math.MaxUint64
)

func at(n ...uint64) api.Time {
	var t [api.MaxArity]uint64
	copy(t[:], n)
	return api.Time{A: t[0], B: t[1], C: t[2]}
}

func caught(t api.Time, key, val uint64) api.Caught {
	return api.Caught{T: t, R: api.Record{Key: key, Val: val}}
}

// holding is one that has caught these, in one call.
func holding(l ...api.Caught) *Probe {
	p := New()
	p.Catch(l...)
	return p
}

// catches catches in one call, and tells whether so many are there more.
func catches(t *testing.T, p *Probe, l ...api.Caught) {
	t.Helper()
	was := p.Len()
	p.Catch(l...)
	if n := p.Len(); n != was+len(l) {
		t.Errorf("Len behind Catch of %d: %d, it was %d", len(l), n, was)
	}
}

// is tells whether an answer is as it must be.
func is(t *testing.T, what string, got []api.Caught, want ...api.Caught) {
	t.Helper()
	if !slices.Equal(got, want) {
		t.Errorf("%s: %v, want %v", what, got, want)
	}
}

func upto(t *testing.T, p *Probe, u api.Time, want ...api.Caught) {
	t.Helper()
	if l := p.Upto(u); !slices.Equal(l, want) {
		t.Errorf("Upto(%v): %v, want %v", u, l, want)
	}
}

func done(t *testing.T, p *Probe, front []api.Time, want ...api.Caught) {
	t.Helper()
	if l := p.Done(front); !slices.Equal(l, want) {
		t.Errorf("Done(%v): %v, want %v", front, l, want)
	}
}

func of(t *testing.T, p *Probe, key uint64, want ...api.Caught) {
	t.Helper()
	if l := p.Of(key); !slices.Equal(l, want) {
		t.Errorf("Of(%d): %v, want %v", key, l, want)
	}
}

func counts(t *testing.T, p *Probe, c api.Caught, want int) {
	t.Helper()
	if n := p.Count(c); n != want {
		t.Errorf("Count(%v): %d, want %d", c, n, want)
	}
}

// only is those of a list, in its order, of which that holds.
func only(l []api.Caught, holds func(c api.Caught) bool) []api.Caught {
	var m []api.Caught
	for _, c := range l {
		if holds(c) {
			m = append(m, c)
		}
	}
	return m
}

// hasJust tells, by all calls, that these are caught and no others; they are written in the order of catches.
func hasJust(t *testing.T, p *Probe, want ...api.Caught) {
	t.Helper()
	for range 2 { // asking changes nothing
		is(t, "All", p.All(), want...)
		if n := p.Len(); n != len(want) {
			t.Errorf("Len: %d, want %d", n, len(want))
		}
		upto(t, p, at(top, top, top), want...)
		done(t, p, nil, want...)
		done(t, p, []api.Time{}, want...)
		done(t, p, []api.Time{at()})
		for _, c := range want {
			counts(t, p, c, len(only(want, func(d api.Caught) bool { return d == c })))
			of(t, p, c.R.Key, only(want, func(d api.Caught) bool { return d.R.Key == c.R.Key })...)
		}
	}
}

// isEmpty tells that nothing is caught.
func isEmpty(t *testing.T, p *Probe) {
	t.Helper()
	hasJust(t, p)
	for _, n := range []uint64{0, 1, 7, half, top} {
		upto(t, p, at(n, n, n))
		upto(t, p, at(n))
		done(t, p, []api.Time{at(n, n)})
		done(t, p, []api.Time{at(5), at(n), at(5)})
		of(t, p, n)
		counts(t, p, caught(at(n, n, n), n, n), 0)
	}
}

func TestTheExamples(t *testing.T) { // P24.1 to P24.3
	p := New()
	catches(t, p, caught(at(1, 0), 5, 9), caught(at(0, 2), 5, 8))
	catches(t, p, caught(at(1, 0), 5, 7), caught(at(0, 2), 5, 8))
	u, v, w := caught(at(0, 2), 5, 8), caught(at(1, 0), 5, 7), caught(at(1, 0), 5, 9)
	is(t, "All", p.All(), u, u, v, w)
	if n := p.Len(); n != 4 {
		t.Errorf("Len: %d", n)
	}
	counts(t, p, u, 2)
	counts(t, p, caught(at(0, 2), 5, 9), 0)

	upto(t, p, at(1, 1), v, w)
	upto(t, p, at(0, 2), u, u)
	upto(t, p, at(0, 1))
	of(t, p, 5, u, u, v, w)
	of(t, p, 4)

	done(t, p, []api.Time{at(1, 0)}, u, u)
	done(t, p, []api.Time{at(0, 0)})
	done(t, p, nil, u, u, v, w)
	done(t, p, []api.Time{at(1, 1), at(0, 3), at(9, 9)}, u, u, v, w)

	catches(t, p)
	hasJust(t, p, u, u, v, w)
}

func TestANewOneHasCaughtNothing(t *testing.T) { // P24.1
	p := New()
	if p == nil || p == New() {
		t.Fatal("New makes none of its own")
	}
	isEmpty(t, p)
	// What was asked in vain leaves nothing behind.
	c := caught(at(1, 2, 3), 4, 5)
	catches(t, p, c)
	hasJust(t, p, c)
}

func TestCatchOfNothing(t *testing.T) { // P24.1
	u, v := caught(at(), 0, 0), caught(at(2), 3, 4)
	p := New()
	for range 3 {
		catches(t, p)
		catches(t, p, []api.Caught{}...)
		catches(t, p, []api.Caught(nil)...)
		isEmpty(t, p)
	}
	catches(t, p, v, u)
	for range 3 {
		catches(t, p)
		catches(t, p, []api.Caught{v, v, v}[:0]...)
		hasJust(t, p, u, v)
	}
}

func TestTheLeastCounts(t *testing.T) { // P24.1: a catch of all numbers 0 is one, too
	p := New()
	for n := range 4 {
		hasJust(t, p, slices.Repeat([]api.Caught{{}}, n)...)
		counts(t, p, api.Caught{}, n)
		of(t, p, 0, make([]api.Caught, n)...)
		upto(t, p, at(), make([]api.Caught, n)...)
		catches(t, p, api.Caught{})
	}
}

// grid is all catches of these numbers, in the order of catches: the last number goes on most often.
func grid(numbers ...uint64) []api.Caught {
	var l []api.Caught
	for _, a := range numbers {
		for _, b := range numbers {
			for _, c := range numbers {
				for _, key := range numbers {
					for _, val := range numbers {
						l = append(l, caught(at(a, b, c), key, val))
					}
				}
			}
		}
	}
	return l
}

func TestTheOrderOfCatches(t *testing.T) { // P24.2
	want := grid(0, 1, half, top)
	for seed := range uint64(10) {
		next := draws.Numbers(seed)
		p := holding(draws.Mixed(want, next)...)
		is(t, "All", p.All(), want...)
		done(t, p, nil, want...)
		upto(t, p, at(top, top, top), want...)
		for _, key := range []uint64{0, 1, half, top} {
			of(t, p, key, only(want, func(c api.Caught) bool { return c.R.Key == key })...)
		}
	}
}

func TestTheOrderOfEachTwo(t *testing.T) { // P24.2
	all := grid(0, half, top)
	for i, c := range all {
		for _, d := range all[i:] {
			is(t, "All", holding(c, d).All(), c, d)
			is(t, "All", holding(d, c).All(), c, d)
		}
	}
}

// parts writes one number of a catch, each of them in turn.
func parts() []func(c *api.Caught, n uint64) {
	return []func(c *api.Caught, n uint64){
		func(c *api.Caught, n uint64) { c.T.A = n },
		func(c *api.Caught, n uint64) { c.T.B = n },
		func(c *api.Caught, n uint64) { c.T.C = n },
		func(c *api.Caught, n uint64) { c.R.Key = n },
		func(c *api.Caught, n uint64) { c.R.Val = n },
	}
}

func TestAnEarlierPartGoesFirst(t *testing.T) { // P24.2
	numbers := []uint64{0, 1, 2, 1<<32 - 1, 1 << 32, half - 1, half, half + 1, top - 1, top}
	for i, part := range parts() {
		for j, later := range parts() {
			if j < i {
				continue
			}
			for k, less := range numbers {
				for _, more := range numbers[k+1:] {
					// The later parts speak for the other order.
					first, second := caught(at(3, 3, 3), 3, 3), caught(at(3, 3, 3), 3, 3)
					later(&first, more)
					later(&second, less)
					part(&first, less)
					part(&second, more)
					hasJust(t, holding(second, first), first, second)
				}
			}
		}
	}
}

func TestAsOftenAsItWasCaught(t *testing.T) { // P24.1 to P24.3
	u, v, w := caught(at(0, 9), 4, 4), caught(at(1), 3, top), caught(at(1, 0, 1), 3, 0)
	for often := range 6 {
		want := slices.Concat([]api.Caught{u}, slices.Repeat([]api.Caught{v}, often), []api.Caught{w, w})
		p := New()
		catches(t, p, w)
		for range often { // in many calls
			catches(t, p, v)
		}
		catches(t, p, u, w)
		hasJust(t, p, want...)
		of(t, p, 3, want[1:]...)
		upto(t, p, at(1, 3, 0), want[1:1+often]...)
		upto(t, p, at(1, 9, 0), want[:1+often]...)
		done(t, p, []api.Time{at(0, 1)}, want[1:]...)
		done(t, p, []api.Time{at(0, 0, 1)}, want[:1+often]...)
		hasJust(t, holding(slices.Concat(slices.Repeat([]api.Caught{v}, often), []api.Caught{w, u, w})...), want...)
	}
}

func TestUpto(t *testing.T) { // P24.2
	for _, u := range []api.Time{at(1, 1, 1), at(5, 3, 9), at(half, half, half), at(half-1, half, half+1), at(top-1, top-1, top-1)} {
		one, other := caught(u, 0, 7), caught(u, 1, 0)
		p := holding(other, one, other)
		for _, there := range []api.Time{u, at(u.A+1, u.B, u.C), at(u.A, u.B+1, u.C), at(u.A, u.B, u.C+1), at(u.A+1, u.B+1, u.C+1), at(top, top, top)} {
			upto(t, p, there, one, other, other)
		}
		for _, not := range []api.Time{
			at(u.A-1, u.B, u.C), at(u.A, u.B-1, u.C), at(u.A, u.B, u.C-1), at(u.A-1, u.B-1, u.C-1), at(), at(u.A), at(0, u.B), at(0, 0, u.C), // ahead of it
			at(u.A-1, u.B+1, u.C), at(u.A+1, u.B-1, u.C), at(u.A+1, u.B+1, u.C-1), at(top, top, 0), at(top, 0, top), at(0, top, top), // apart from it
		} {
			upto(t, p, not)
		}
	}
	least, greatest := caught(at(), top, top), caught(at(top, top, top), 0, 0)
	p := holding(greatest, least)
	upto(t, p, at(), least)
	upto(t, p, at(top, top, top-1), least)
	upto(t, p, at(top, top, top), least, greatest)
}

func TestUptoOfAllPairs(t *testing.T) { // P24.2
	for _, numbers := range [][]uint64{{0, 1, 2}, {0, half - 1, half}, {1, half, top}} {
		all := grid(numbers...)
		p := holding(draws.Mixed(all, draws.Numbers(3))...)
		for _, u := range cube(0, 1, 2, half-1, half, half+1, top) {
			upto(t, p, u, only(all, func(c api.Caught) bool { return c.T.A <= u.A && c.T.B <= u.B && c.T.C <= u.C })...)
		}
	}
}

func TestOf(t *testing.T) { // P24.2
	keys := []uint64{0, 1, 5, 1<<32 + 5, half, half + 5, top}
	var all []api.Caught
	for _, u := range []api.Time{at(), at(0, 4), at(5, 5, 5), at(top)} {
		for _, key := range keys {
			all = append(all, caught(u, key, 3), caught(u, key, 3), caught(u, key, 5))
		}
	}
	p := holding(draws.Mixed(all, draws.Numbers(4))...)
	hasJust(t, p, all...)
	for _, key := range keys {
		want := only(all, func(c api.Caught) bool { return c.R.Key == key })
		if len(want) != 12 {
			t.Errorf("of the key %d are %d", key, len(want))
		}
		of(t, p, key, want...)
	}
	for _, key := range []uint64{2, 3, 4, 6, 1 << 32, half - 1, half + 1, top - 1} { // 3 and 4 are a value and a number of a time
		of(t, p, key)
	}
}

func TestCount(t *testing.T) { // P24.3
	base := caught(at(1, 2, 3), 4, 5)
	for _, n := range []uint64{0, 6, half, top} {
		for i, part := range parts() {
			like := base
			part(&like, n)
			p := New()
			counts(t, p, base, 0)
			for often := range 4 {
				counts(t, p, base, often)
				counts(t, p, like, 2*often)
				catches(t, p, like, base, like)
			}
			for j, other := range parts() { // never caught
				none := base
				other(&none, 99)
				counts(t, p, none, 0)
				none = like
				other(&none, 99)
				counts(t, p, none, 0)
				if i != j {
					none = base
					other(&none, n)
					counts(t, p, none, 0)
				}
			}
		}
	}
	// The same numbers at other places are another one.
	p := holding(caught(at(1, 2, 3), 4, 5))
	for _, c := range []api.Caught{caught(at(1, 2, 3), 5, 4), caught(at(2, 1, 3), 4, 5), caught(at(1, 3, 2), 4, 5), caught(at(1, 2, 4), 3, 5)} {
		counts(t, p, c, 0)
	}
}
