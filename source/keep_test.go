package source

import (
	"sync"
	"testing"

	"sluice/api"
)

func TestANilOne(t *testing.T) { // P1
	var s *Source
	for range 2 {
		for _, u := range []api.Time{at(), at(1, 2, 3), at(top, top, top)} {
			if e := s.Send(u); e != api.OK {
				t.Errorf("Send(%v): %d", u, e)
			}
			if e := s.Advance(u); e != api.OK {
				t.Errorf("Advance(%v): %d", u, e)
			}
		}
		if e := s.Close(); e != api.OK {
			t.Errorf("Close: %d", e)
		}
		hasEpoch(t, s, at(), false)
		if s.Copy() != nil {
			t.Error("Copy of a nil one is one")
		}
	}
}

func TestOneThatNewDidNotMake(t *testing.T) { // P1: no answer of it is promised, but that each call ends without a panic
	for _, fresh := range []func() *Source{func() *Source { return &Source{} }, func() *Source { return new(Source).Copy() }} {
		for i := range 5 {
			s := fresh()
			for j := range 10 {
				switch (i + j) % 5 {
				case 0:
					s.Send(at())
					s.Send(at(1, 2, 3))
				case 1:
					s.Advance(at())
					s.Advance(at(1))
				case 2:
					s.Close()
				case 3:
					s.Epoch()
				case 4:
					s.Copy().Close()
				}
			}
		}
	}
}

// looks is how one stands: at an epoch, or closed.
type looks struct {
	epoch api.Time
	open  bool
}

// stands asks an input of arity 2 for its epoch, and at which times around it may be sent.
func stands(t *testing.T, s *Source, want looks) {
	t.Helper()
	hasEpoch(t, s, want.epoch, want.open)
	for a := range uint64(6) {
		for b := range uint64(6) {
			e := api.OK
			switch {
			case !want.open:
				e = api.ErrClosed
			case a < want.epoch.A || b < want.epoch.B:
				e = api.ErrEpoch
			}
			sends(t, s, at(a, b), e)
		}
	}
	sends(t, s, at(5, 5, 1), api.ErrArity)
}

func TestWhatIsRefusedChangesNothing(t *testing.T) { // P23.2, P23.3, P3
	was := looks{at(2, 3), true}
	s := gone(t, 2, at(2, 3))
	refusals := []func() api.Errno{
		func() api.Errno { return s.Send(at(1, 3)) },
		func() api.Errno { return s.Send(at(2, 3, 1)) },
		func() api.Errno { return s.Advance(at(1, 9)) },
		func() api.Errno { return s.Advance(at(9, 2)) },
		func() api.Errno { return s.Advance(at()) },
		func() api.Errno { return s.Advance(at(9, 9, 9)) },
	}
	for _, one := range refusals {
		for _, other := range refusals {
			if one() == api.OK || other() == api.OK {
				t.Error("a call is not refused")
			}
			stands(t, s, was)
		}
	}
	advances(t, s, at(2, 4), api.OK)
	closes(t, s, api.OK)
	for i, refused := range append(refusals, s.Close) {
		if refused() == api.OK {
			t.Errorf("call %d is not refused", i)
		}
		stands(t, s, looks{})
	}
}

func TestCopyAndThenCalls(t *testing.T) { // P23.7, P5
	calls := []struct {
		act  func(s *Source)
		want looks
	}{
		{func(s *Source) {}, looks{at(2, 3), true}},
		{func(s *Source) { sends(t, s, at(5, 5), api.OK) }, looks{at(2, 3), true}},
		{func(s *Source) { advances(t, s, at(2, 3), api.OK) }, looks{at(2, 3), true}},
		{func(s *Source) { advances(t, s, at(1, 5), api.ErrEpoch) }, looks{at(2, 3), true}},
		{func(s *Source) { advances(t, s, at(2, 5), api.OK) }, looks{at(2, 5), true}},
		{func(s *Source) { advances(t, s, at(4, 3), api.OK); advances(t, s, at(4, 4), api.OK) }, looks{at(4, 4), true}},
		{func(s *Source) { closes(t, s, api.OK) }, looks{}},
		{func(s *Source) { advances(t, s, at(3, 3), api.OK); closes(t, s, api.OK) }, looks{}},
		{func(s *Source) { closes(t, s, api.OK); closes(t, s, api.ErrClosed) }, looks{}},
	}
	for _, one := range calls {
		for _, other := range calls {
			s := gone(t, 2, at(2, 3))
			c := s.Copy()
			stands(t, c, looks{at(2, 3), true})
			one.act(s)
			stands(t, c, looks{at(2, 3), true})
			other.act(c)
			stands(t, s, one.want)
			stands(t, c, other.want)
			d := c.Copy() // of a copy, closed ones too
			stands(t, d, other.want)
			if other.want.open {
				advances(t, d, at(5, 5), api.OK)
				closes(t, d, api.OK)
			}
			stands(t, s, one.want)
			stands(t, c, other.want)
			stands(t, d, looks{at(), false})
		}
	}
}

func TestCopyOfEachArity(t *testing.T) { // P23.7
	for arity := 1; arity <= 3; arity++ {
		s := made(t, arity)
		c := s.Copy()
		if c == nil || c == s {
			t.Fatal("Copy makes none of its own")
		}
		hasEpoch(t, c, at(), true)
		for _, u := range fitting(arity) {
			sends(t, c, u, api.OK)
		}
		for _, u := range unfitting(arity) {
			sends(t, c, u, api.ErrArity)
		}
		closes(t, c, api.OK)
		hasEpoch(t, s, at(), true)
		d := c.Copy()
		if d == nil || d == c {
			t.Fatal("Copy of a closed one makes none of its own")
		}
		isClosed(t, d, arity)
		advances(t, s, at(3), api.OK)
		isClosed(t, c, arity)
	}
}

func TestTwoHaveNothingToDoWithEachOther(t *testing.T) { // P5
	s, u := made(t, 2), made(t, 1)
	advances(t, s, at(4, 4), api.OK)
	hasEpoch(t, u, at(), true)
	advances(t, u, at(7), api.OK)
	hasEpoch(t, s, at(4, 4), true)
	sends(t, s, at(4, 5), api.OK)
	sends(t, u, at(7, 1), api.ErrArity)
	closes(t, u, api.OK)
	stands(t, s, looks{at(4, 4), true})
	closes(t, s, api.OK)
}

func TestTheLastEpochIsNotKept(t *testing.T) { // the language's rule 8
	s := shut(t, 2, at(1, 1), at(3, 4))
	if *s != *shut(t, 2) {
		t.Errorf("kept: %v", *s)
	}
}

func TestManyAtOnce(t *testing.T) { // P3, P5
	shared := gone(t, 2, at(1, 2))
	ended := shut(t, 2, at(1, 2))
	var group sync.WaitGroup
	for range 8 {
		group.Go(func() {
			own := shared.Copy()
			advances(t, own, at(3, 3), api.OK)
			stands(t, own, looks{at(3, 3), true})
			closes(t, own, api.OK)
			stands(t, own, looks{})
			stands(t, shared, looks{at(1, 2), true})
			stands(t, ended.Copy(), looks{})
			stands(t, ended, looks{})
		})
	}
	group.Wait()
}
