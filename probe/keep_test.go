package probe

import (
	"slices"
	"sync"
	"testing"

	"sluice/api"
)

func TestANilOne(t *testing.T) { // P1
	var p *Probe
	for range 2 {
		p.Catch()
		p.Catch(caught(at(), 0, 0))
		p.Catch(caught(at(1, 1), 1, 1), caught(at(top, top, top), top, top))
		isEmpty(t, p)
		counts(t, p, caught(at(1, 1), 1, 1), 0)
		if p.Copy() != nil {
			t.Error("Copy of a nil one is one")
		}
	}
}

func TestOneThatNewDidNotMake(t *testing.T) { // P1: no answer of it is promised, but that each call ends without a panic
	c := caught(at(1), 1, 1)
	for _, fresh := range []func() *Probe{func() *Probe { return &Probe{} }, func() *Probe { return new(Probe).Copy() }} {
		for i := range 8 {
			p := fresh()
			for j := range 16 {
				switch (i + j) % 8 {
				case 0:
					p.Catch()
					p.Catch(c, c)
				case 1:
					p.All()
				case 2:
					p.Upto(at(1))
				case 3:
					p.Done(nil)
					p.Done([]api.Time{at(1), at(0, 1)})
				case 4:
					p.Of(1)
				case 5:
					p.Count(c)
				case 6:
					p.Len()
				case 7:
					p.Copy().Catch(c)
				}
			}
		}
	}
}

// some are four catches, one of them twice, in the order of catches.
func some() []api.Caught {
	return []api.Caught{caught(at(0, 2), 5, 8), caught(at(0, 2), 5, 8), caught(at(1, 0), 5, 7), caught(at(1, 0), 6, 0)}
}

// filled has caught them, in another order.
func filled(t *testing.T) *Probe {
	t.Helper()
	l := some()
	p := New()
	catches(t, p, l[3], l[0])
	catches(t, p, l[2])
	catches(t, p, l[0])
	return p
}

func hasSome(t *testing.T, p *Probe) {
	t.Helper()
	hasJust(t, p, some()...)
}

// overwrite writes over a list, into its spare room and into what it grows to.
func overwrite[T any](l []T, v T) {
	grown := append(l, v)
	for _, x := range [][]T{l[:cap(l)], grown[:cap(grown)]} {
		for i := range x {
			x[i] = v
		}
	}
}

func TestWhatIsCaughtMayBeWrittenOver(t *testing.T) { // P2
	odd := caught(at(77), 77, 77)
	for n := range len(some()) + 1 {
		for spare := range 3 {
			room := slices.Concat(some()[:n], slices.Repeat([]api.Caught{odd}, spare))
			was := slices.Clone(room)
			p := New()
			catches(t, p, room[:n]...)
			told := p.All()
			catches(t, p, some()[n:]...)
			if !slices.Equal(room, was) {
				t.Errorf("Catch has written into its list, or behind it: %v, want %v", room, was)
			}
			overwrite(room, odd)
			is(t, "what was told", told, some()[:n]...)
			hasSome(t, p)
		}
	}
}

func TestTwoMayCatchOneList(t *testing.T) { // P2, P5
	l := some()
	p, q := New(), New()
	catches(t, p, l[:2]...)
	catches(t, q, l[:2]...)
	catches(t, p, l[3], l[2])
	catches(t, q, caught(at(9), 9, 9))
	is(t, "the list", l, some()...)
	hasSome(t, p)
	hasJust(t, q, l[0], l[1], caught(at(9), 9, 9))
}

func TestTheListOfDoneStays(t *testing.T) { // P2
	p := filled(t)
	for _, list := range [][]api.Time{{}, {at(1, 0)}, {at(2, 2), at(1, 0), at(0, 3), at(1, 0)}, {at(9), at(0, 9), at(0, 0, 9), at(0, 2)}} {
		room := slices.Concat(list, []api.Time{at(77, 3), at(2, 66), at(0, 0)})
		was := slices.Clone(room)
		front := room[:len(list)]
		want := p.Done(slices.Clone(list))
		for range 2 {
			done(t, p, front, want...)
			if !slices.Equal(room, was) {
				t.Errorf("Done has written into its list, or behind it: %v, want %v", room, was)
			}
		}
		// Neither is it kept.
		told := p.Done(front)
		overwrite(room, at(0, 0, 1))
		is(t, "what was told", told, want...)
		done(t, p, list, want...)
		hasSome(t, p)
	}
}

// tells are calls of the four that tell all, some and none.
func tells() []func(p *Probe) []api.Caught {
	return []func(p *Probe) []api.Caught{
		func(p *Probe) []api.Caught { return p.All() },
		func(p *Probe) []api.Caught { return p.Upto(at(9, 9)) },
		func(p *Probe) []api.Caught { return p.Upto(at(0, 9)) },
		func(p *Probe) []api.Caught { return p.Upto(at()) },
		func(p *Probe) []api.Caught { return p.Done(nil) },
		func(p *Probe) []api.Caught { return p.Done([]api.Time{at(0, 1)}) },
		func(p *Probe) []api.Caught { return p.Done([]api.Time{at()}) },
		func(p *Probe) []api.Caught { return p.Of(5) },
		func(p *Probe) []api.Caught { return p.Of(6) },
		func(p *Probe) []api.Caught { return p.Of(4) },
	}
}

func TestWhatIsToldIsNewMemory(t *testing.T) { // P2
	for _, one := range tells() {
		for _, other := range tells() {
			p := filled(t)
			c := p.Copy()
			l, m, n := one(p), other(p), other(c)
			want := slices.Clone(m)
			overwrite(l, caught(at(0, 9), 5, 99))
			is(t, "another answer", m, want...)
			is(t, "the copy's answer", n, want...)
			hasSome(t, p)
			hasSome(t, c)
			// It stays as it was, when more is caught.
			catches(t, p, caught(at(), 5, 0))
			is(t, "what was told", m, want...)
			overwrite(m, caught(at(3), 5, 3))
			hasJust(t, p, slices.Concat([]api.Caught{caught(at(), 5, 0)}, some())...)
			hasSome(t, c)
		}
	}
}

func TestWhatAnEmptyOneTellsMayBeGrown(t *testing.T) { // P2
	p := New()
	for _, tell := range tells() {
		overwrite(tell(p), caught(at(1), 5, 5))
		isEmpty(t, p)
	}
}

func TestCopyOfAnEmptyOne(t *testing.T) { // P24.3
	p := New()
	c := p.Copy()
	if c == nil || c == p {
		t.Fatal("Copy makes none of its own")
	}
	isEmpty(t, c)
	u, v := caught(at(1), 1, 1), caught(at(2), 2, 2)
	catches(t, c, u)
	isEmpty(t, p)
	catches(t, p, v, v)
	hasJust(t, c, u)
	hasJust(t, p, v, v)
}

func TestCopyAndThenCalls(t *testing.T) { // P24.3, P5
	first, last := caught(at(), 0, 0), caught(at(9), 9, 9)
	for _, n := range []int{0, 1, 2, 3, 4, 5, 8, 16, 33} { // whatever room is behind what is kept
		base := slices.Repeat([]api.Caught{caught(at(1), 5, 5)}, n)
		p := New()
		for _, c := range base {
			catches(t, p, c)
		}
		c := p.Copy()
		if c == nil || c == p {
			t.Fatal("Copy makes none of its own")
		}
		hasJust(t, c, base...)
		catches(t, p, last)
		hasJust(t, c, base...)
		catches(t, c, first, first)
		hasJust(t, p, slices.Concat(base, []api.Caught{last})...)
		hasJust(t, c, slices.Concat([]api.Caught{first, first}, base)...)
		d, e := c.Copy(), c.Copy() // of a copy
		catches(t, d, last)
		catches(t, e, first)
		catches(t, c, last, last)
		hasJust(t, d, slices.Concat([]api.Caught{first, first}, base, []api.Caught{last})...)
		hasJust(t, e, slices.Concat([]api.Caught{first, first, first}, base)...)
		hasJust(t, c, slices.Concat([]api.Caught{first, first}, base, []api.Caught{last, last})...)
		hasJust(t, p, slices.Concat(base, []api.Caught{last})...)
	}
}

func TestTwoHaveNothingToDoWithEachOther(t *testing.T) { // P5
	p, q := New(), New()
	u, v := caught(at(1), 1, 1), caught(at(2), 1, 2)
	catches(t, p, u)
	isEmpty(t, q)
	catches(t, q, v, v)
	hasJust(t, p, u)
	catches(t, p, v)
	hasJust(t, q, v, v)
	hasJust(t, p, u, v)
}

func TestManyAtOnce(t *testing.T) { // P3, P5: asking writes nothing, so many may ask one
	shared := filled(t)
	more := caught(at(7), 7, 7)
	var group sync.WaitGroup
	for range 8 {
		group.Go(func() {
			own := shared.Copy()
			catches(t, own, more)
			hasJust(t, own, append(some(), more)...)
			hasSome(t, shared)
		})
	}
	group.Wait()
}
