package sums

import (
	"slices"
	"sync"
	"testing"

	"sluice/api"
)

func TestANilOne(t *testing.T) { // P1
	var s *Sums
	for range 2 {
		for _, u := range []api.Time{at(), at(1, 2, 3), at(top, top, top)} {
			adds(t, s, false, u, rec(0, 0), rec(7, 5), rec(top, top))
		}
		isEmpty(t, s)
		if s.Copy() != nil {
			t.Error("Copy of a nil one is one")
		}
	}
}

func TestOneThatNewDidNotMake(t *testing.T) { // P1: no answer of it is promised, but that each call ends without a panic
	for _, fresh := range []func() *Sums{func() *Sums { return &Sums{} }, func() *Sums { return new(Sums).Copy() }} {
		for i := range 6 {
			s := fresh()
			for j := range 6 {
				switch (i + j) % 6 {
				case 0:
					s.Times()
				case 1:
					s.Ready(nil)
				case 2:
					s.Ready([]api.Time{at(1), at(0, 1)})
				case 3:
					s.Tell(at(1))
				case 4:
					s.Copy().Add(at(1), rec(1, 1))
				case 5:
					s.Add(at(1), rec(1, 1))
				}
			}
		}
	}
}

// some holds two times; another one was told already.
func some(t *testing.T) *Sums {
	t.Helper()
	s := New()
	adds(t, s, true, at(1, 0), rec(7, 5), rec(7, top-4), rec(3, 9))
	adds(t, s, true, at(5, 5), rec(1, 1))
	adds(t, s, true, at(0, 2), rec(7, 1))
	tells(t, s, at(5, 5), rec(1, 1))
	return s
}

func first() of  { return has(at(0, 2), rec(7, 1)) }
func second() of { return has(at(1, 0), rec(3, 9), rec(7, 0)) }

func hasSome(t *testing.T, s *Sums) {
	t.Helper()
	hasJust(t, s, first(), second())
}

// overwrite writes over a list, into its spare room and into what it grows to.
func overwrite[T any](l []T, v T) {
	grown := append(l, v)
	for _, x := range [][]T{l[:cap(l)], grown[:cap(grown)]} {
		for i := range x {
			x[i] = v
		}
	}
}

func TestWhatIsHandedInStays(t *testing.T) { // P2
	s := some(t)
	for _, list := range [][]api.Time{{}, {at(1, 0)}, {at(2, 2), at(1, 0), at(0, 0), at(1, 0)}, {at(9), at(0, 9), at(0, 0, 9), at(0, 2)}} {
		room := slices.Concat(list, []api.Time{at(77, 3), at(2, 66), at(77, 3)})
		was := slices.Clone(room)
		front := room[:len(list)]
		want := s.Ready(slices.Clone(list))
		for range 2 {
			ready(t, s, front, want...)
			if !slices.Equal(room, was) {
				t.Errorf("Ready has written into its list, or behind it: %v, want %v", room, was)
			}
		}
		// Neither is it kept.
		l := s.Ready(front)
		overwrite(room, at(0, 0, 1))
		if !slices.Equal(l, want) {
			t.Errorf("what was told has gone with what was handed in: %v, want %v", l, want)
		}
		hasSome(t, s)
	}
}

func TestTimesAreNewMemory(t *testing.T) { // P2
	calls := []func(s *Sums) []api.Time{
		func(s *Sums) []api.Time { return s.Times() },
		func(s *Sums) []api.Time { return s.Ready(nil) },
		func(s *Sums) []api.Time { return s.Ready([]api.Time{at(2, 2), at(7)}) },
		func(s *Sums) []api.Time { return s.Ready([]api.Time{at(0, 1)}) },
		func(s *Sums) []api.Time { return s.Ready([]api.Time{at()}) },
	}
	for _, one := range calls {
		for _, other := range calls {
			s := some(t)
			c := s.Copy()
			l, m, n := one(s), other(s), other(c)
			want := slices.Clone(m)
			overwrite(l, at(99, 99, 99))
			if !slices.Equal(m, want) || !slices.Equal(n, want) {
				t.Errorf("other answers have changed: %v, %v, want %v", m, n, want)
			}
			hasSome(t, s)
			hasSome(t, c)
			tells(t, s, at(99, 99, 99))
			// They stay as they were, when more is added and told.
			adds(t, s, true, at(0, 0), rec(1, 1))
			tells(t, s, second().time, second().records...)
			tells(t, s, first().time, first().records...)
			if !slices.Equal(m, want) {
				t.Errorf("what was told has changed behind later calls: %v, want %v", m, want)
			}
		}
	}
}

func TestRecordsAreNewMemory(t *testing.T) { // P2
	s := some(t)
	c, d := s.Copy(), s.Copy()
	l := s.Tell(at(1, 0))
	m := c.Tell(at(1, 0))
	n := s.Tell(at(0, 2))
	overwrite(l, rec(99, 99))
	if !slices.Equal(m, second().records) || !slices.Equal(n, first().records) {
		t.Errorf("other answers have changed: %v, %v", m, n)
	}
	isEmpty(t, s)
	hasJust(t, c, first())
	hasSome(t, d)
	adds(t, s, true, at(1, 0), rec(99, 1), rec(3, 1))
	adds(t, c, true, at(1, 0), rec(7, 8))
	if !slices.Equal(m, second().records) || !slices.Equal(n, first().records) {
		t.Errorf("what was told has changed behind later calls: %v, %v", m, n)
	}
	overwrite(m, rec(88, 88))
	hasJust(t, s, has(at(1, 0), rec(3, 1), rec(99, 1)))
	hasJust(t, c, first(), has(at(1, 0), rec(7, 8)))
	hasSome(t, d)
}

func TestNoneToldMayBeGrown(t *testing.T) { // P2
	s := New()
	for range 2 {
		overwrite(s.Times(), at(1))
		overwrite(s.Ready(nil), at(1))
		overwrite(s.Ready([]api.Time{at(1)}), at(1))
		overwrite(s.Tell(at(1)), rec(1, 1))
		isEmpty(t, s)
	}
}

func TestAskingChangesNothing(t *testing.T) { // P3
	s := some(t)
	for range 3 {
		s.Times()
		s.Ready(nil)
		s.Ready([]api.Time{at(1, 0)})
		s.Copy()
		s.Tell(at(5, 5))
		s.Tell(at())
		hasSome(t, s)
	}
	adds(t, s, false, at(1, 0), rec(7, 0))
	adds(t, s, true, at(5, 5), rec(7, 0))
}

func TestCopyAndThenCalls(t *testing.T) { // P22.4, P5
	calls := []struct {
		act  func(s *Sums)
		want []of
	}{
		{func(s *Sums) {}, []of{first(), second()}},
		{func(s *Sums) { adds(t, s, false, at(0, 2), rec(7, 4)) }, []of{has(at(0, 2), rec(7, 5)), second()}},
		{func(s *Sums) { adds(t, s, false, at(0, 2), rec(6, 0)) }, []of{has(at(0, 2), rec(6, 0), rec(7, 1)), second()}},
		{func(s *Sums) { adds(t, s, false, at(1, 0), rec(8, 4)) }, []of{first(), has(at(1, 0), rec(3, 9), rec(7, 0), rec(8, 4))}},
		{func(s *Sums) { adds(t, s, true, at(0, 3), rec(7, 2)) }, []of{first(), has(at(0, 3), rec(7, 2)), second()}},
		{func(s *Sums) { adds(t, s, true, at(5, 5), rec(2, 2)) }, []of{first(), second(), has(at(5, 5), rec(2, 2))}},
		{func(s *Sums) { tells(t, s, first().time, first().records...) }, []of{second()}},
		{func(s *Sums) { tells(t, s, second().time, second().records...) }, []of{first()}},
		{func(s *Sums) {
			tells(t, s, second().time, second().records...)
			adds(t, s, true, at(1, 0), rec(4, 4), rec(7, 1))
		}, []of{first(), has(at(1, 0), rec(4, 4), rec(7, 1))}},
		{func(s *Sums) {
			tells(t, s, second().time, second().records...)
			tells(t, s, first().time, first().records...)
			isEmpty(t, s)
		}, nil},
	}
	for _, one := range calls {
		for _, other := range calls {
			s := some(t)
			c := s.Copy()
			one.act(s)
			hasSome(t, c)
			other.act(c)
			hasJust(t, s, one.want...)
			hasJust(t, c, other.want...)
			for _, o := range one.want {
				tells(t, s, o.time, o.records...)
			}
			isEmpty(t, s)
			hasJust(t, c, other.want...)
		}
	}
}

func TestCopyOfAnEmptyOne(t *testing.T) { // P22.4
	told := some(t)
	told.Tell(first().time)
	told.Tell(second().time)
	for _, s := range []*Sums{New(), told} {
		c := s.Copy()
		if c == nil || c == s {
			t.Fatal("Copy makes none of its own")
		}
		isEmpty(t, c)
		adds(t, c, true, at(1, 0), rec(7, 1))
		isEmpty(t, s)
		adds(t, s, true, at(1, 0), rec(8, 2))
		hasJust(t, c, has(at(1, 0), rec(7, 1)))
		hasJust(t, s, has(at(1, 0), rec(8, 2)))
	}
}

func TestCopiesOfCopies(t *testing.T) { // P22.4, P5
	s := some(t)
	c := s.Copy()
	d := c.Copy()
	e := s.Copy().Copy().Copy()
	adds(t, s, false, at(0, 2), rec(7, 1))
	adds(t, c, false, at(0, 2), rec(7, 2))
	adds(t, d, false, at(0, 2), rec(8, 3))
	tells(t, c, second().time, second().records...)
	f := c.Copy()
	tells(t, f, at(0, 2), rec(7, 3))
	hasJust(t, s, has(at(0, 2), rec(7, 2)), second())
	hasJust(t, c, has(at(0, 2), rec(7, 3)))
	hasJust(t, d, has(at(0, 2), rec(7, 1), rec(8, 3)), second())
	hasSome(t, e)
	isEmpty(t, f)
}

func TestTwoHaveNothingToDoWithEachOther(t *testing.T) { // P5
	s, u := New(), New()
	adds(t, s, true, at(1), rec(1, 1))
	isEmpty(t, u)
	adds(t, u, true, at(1), rec(1, 5))
	adds(t, u, true, at(2), rec(2, 6))
	adds(t, s, false, at(1), rec(2, 2))
	tells(t, u, at(1), rec(1, 5))
	hasJust(t, s, has(at(1), rec(1, 1), rec(2, 2)))
	hasJust(t, u, has(at(2), rec(2, 6)))
}

func TestWhatWasToldIsNotKept(t *testing.T) { // the language's rule 8
	s := some(t)
	tells(t, s, first().time, first().records...)
	tells(t, s, second().time, second().records...)
	tells(t, s, at(9))
	if len(s.sums) != 0 || len(s.keys) != 0 {
		t.Errorf("kept: %v, %v", s.sums, s.keys)
	}
}

func TestManyAtOnce(t *testing.T) { // P3, P5
	shared := some(t)
	var group sync.WaitGroup
	for range 8 {
		group.Go(func() {
			own := shared.Copy()
			adds(t, own, false, at(0, 2), rec(7, 1), rec(9, 9))
			adds(t, own, true, at(5, 5), rec(7, 1))
			tells(t, own, second().time, second().records...)
			hasJust(t, own, has(at(0, 2), rec(7, 2), rec(9, 9)), has(at(5, 5), rec(7, 1)))
			ready(t, shared, []api.Time{at(0, 1)}, at(1, 0))
			hasSome(t, shared)
		})
	}
	group.Wait()
}
