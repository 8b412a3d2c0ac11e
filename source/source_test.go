package source

import (
	"math"
	"testing"

	"sluice/api"
)

const (
	half = 1 << 63
	top  = math.MaxUint64
)

func at(n ...uint64) api.Time {
	t := [api.MaxArity]uint64{}
	copy(t[:], n)
	return api.Time{A: t[0], B: t[1], C: t[2]}
}

// made is a new one of an arity that may be.
func made(t *testing.T, arity int) *Source {
	t.Helper()
	s, e := New(arity)
	if s == nil || e != api.OK {
		t.Fatalf("New(%d): %v, %d", arity, s, e)
	}
	return s
}

// gone is one that went on to these times, one by one.
func gone(t *testing.T, arity int, to ...api.Time) *Source {
	t.Helper()
	s := made(t, arity)
	for _, u := range to {
		advances(t, s, u, api.OK)
	}
	return s
}

// shut is such a one that is closed.
func shut(t *testing.T, arity int, to ...api.Time) *Source {
	t.Helper()
	s := gone(t, arity, to...)
	closes(t, s, api.OK)
	return s
}

func hasEpoch(t *testing.T, s *Source, want api.Time, open bool) {
	t.Helper()
	if u, o := s.Epoch(); u != want || o != open {
		t.Errorf("Epoch: %v, %v, want %v, %v", u, o, want, open)
	}
}

// sends asks twice, and whether asking has changed something.
func sends(t *testing.T, s *Source, u api.Time, want api.Errno) {
	t.Helper()
	was, open := s.Epoch()
	for range 2 {
		if e := s.Send(u); e != want {
			t.Errorf("Send(%v): %d, want %d", u, e, want)
		}
		hasEpoch(t, s, was, open)
	}
}

// advances tells what Advance answers, and what the epoch is behind it.
func advances(t *testing.T, s *Source, u api.Time, want api.Errno) {
	t.Helper()
	was, open := s.Epoch()
	if e := s.Advance(u); e != want {
		t.Errorf("Advance(%v): %d, want %d", u, e, want)
	}
	if want == api.OK {
		was = u
	}
	hasEpoch(t, s, was, open)
}

func closes(t *testing.T, s *Source, want api.Errno) {
	t.Helper()
	if e := s.Close(); e != want {
		t.Errorf("Close: %d, want %d", e, want)
	}
	hasEpoch(t, s, at(), false)
}

// isClosed asks all that a closed one answers, and leaves it as it is.
func isClosed(t *testing.T, s *Source, arity int) {
	t.Helper()
	hasEpoch(t, s, at(), false)
	for _, u := range fitting(arity) {
		sends(t, s, u, api.ErrClosed)
		advances(t, s, u, api.ErrClosed)
	}
	for _, u := range unfitting(arity) {
		sends(t, s, u, api.ErrArity)
		advances(t, s, u, api.ErrArity)
	}
	closes(t, s, api.ErrClosed)
}

// fitting is all times of numbers at the ends of the range that fit an arity; unfitting those that do not.
func fitting(arity int) []api.Time {
	fit, _ := parted(arity)
	return fit
}

func unfitting(arity int) []api.Time {
	_, unfit := parted(arity)
	return unfit
}

func parted(arity int) (fit, unfit []api.Time) {
	ends := []uint64{0, 1, half, top}
	for _, a := range ends {
		for _, b := range ends {
			for _, c := range ends {
				if arity < 2 && b != 0 || arity < 3 && c != 0 {
					unfit = append(unfit, at(a, b, c))
				} else {
					fit = append(fit, at(a, b, c))
				}
			}
		}
	}
	return fit, unfit
}

func TestExamples(t *testing.T) { // P23.1 to P23.5
	s, e := New(2)
	if e != api.OK {
		t.Fatal(e)
	}
	hasEpoch(t, s, at(0, 0, 0), true)
	sends(t, s, at(3, 1, 0), api.OK)
	advances(t, s, at(2, 0, 0), api.OK)
	sends(t, s, at(1, 9, 0), api.ErrEpoch)
	sends(t, s, at(2, 0, 0), api.OK)
	sends(t, s, at(2, 0, 1), api.ErrArity)
	advances(t, s, at(1, 5, 0), api.ErrEpoch)
	advances(t, s, at(2, 5, 0), api.OK)

	closes(t, s, api.OK)
	closes(t, s, api.ErrClosed)
	sends(t, s, at(9, 9, 0), api.ErrClosed)
	sends(t, s, at(9, 9, 9), api.ErrArity)
	hasEpoch(t, s, at(0, 0, 0), false)

	for _, arity := range []int{0, 4} {
		if s, e := New(arity); s != nil || e != api.ErrArity {
			t.Errorf("New(%d): %v, %d", arity, s, e)
		}
	}
}

func TestNewOfEveryArity(t *testing.T) { // P23.1
	for arity := -300; arity <= 300; arity++ {
		s, e := New(arity)
		if arity < 1 || arity > 3 {
			if s != nil || e != api.ErrArity {
				t.Errorf("New(%d): %v, %d", arity, s, e)
			}
			continue
		}
		if s == nil || e != api.OK {
			t.Fatalf("New(%d): %v, %d", arity, s, e)
		}
		hasEpoch(t, s, at(), true)
	}
	// Their low bytes are those of arities that may be.
	for _, arity := range []int{math.MinInt, math.MinInt + 1, math.MaxInt, math.MaxInt - 1, math.MinInt32, math.MaxInt32, 1 << 32, 1<<32 + 1, 1<<32 + 3, 1<<16 + 2, 1<<8 + 1, math.MinInt + 2, -1 << 32} {
		if s, e := New(arity); s != nil || e != api.ErrArity {
			t.Errorf("New(%d): %v, %d", arity, s, e)
		}
	}
}

func TestANewOneTakesAllThatFits(t *testing.T) { // P23.1, P23.2
	for arity := 1; arity <= 3; arity++ {
		s := made(t, arity)
		for _, u := range fitting(arity) {
			sends(t, s, u, api.OK)
		}
		for _, u := range unfitting(arity) {
			sends(t, s, u, api.ErrArity)
			advances(t, s, u, api.ErrArity)
		}
		hasEpoch(t, s, at(), true)
	}
}

func TestTimesAroundTheEpoch(t *testing.T) { // P23.2
	for _, c := range []struct {
		arity int
		epoch api.Time
		t     api.Time
		want  api.Errno
	}{
		{1, at(5), at(4), api.ErrEpoch},
		{1, at(5), at(5), api.OK},
		{1, at(5), at(6), api.OK},
		{1, at(5), at(0), api.ErrEpoch},
		{1, at(1), at(0), api.ErrEpoch},
		{1, at(half), at(half - 1), api.ErrEpoch},
		{1, at(half), at(half), api.OK},
		{1, at(half), at(half + 1), api.OK},
		{1, at(half - 1), at(half), api.OK},
		{1, at(half), at(1), api.ErrEpoch},
		{1, at(1), at(half), api.OK},
		{1, at(1), at(top), api.OK},
		{1, at(top), at(top - 1), api.ErrEpoch},
		{1, at(top), at(top), api.OK},
		{1, at(top), at(0), api.ErrEpoch},
		{1, at(1 << 32), at(1<<32 - 1), api.ErrEpoch},
		{2, at(2, 3), at(2, 3), api.OK},
		{2, at(2, 3), at(3, 3), api.OK},
		{2, at(2, 3), at(2, 4), api.OK},
		{2, at(2, 3), at(1, 3), api.ErrEpoch},
		{2, at(2, 3), at(2, 2), api.ErrEpoch},
		{2, at(2, 3), at(3, 2), api.ErrEpoch}, // apart, and told later
		{2, at(2, 3), at(1, 4), api.ErrEpoch}, // apart, and told earlier
		{2, at(2, 3), at(top, 2), api.ErrEpoch},
		{2, at(2, 3), at(1, top), api.ErrEpoch},
		{2, at(0, top), at(top, top-1), api.ErrEpoch},
		{2, at(top, 0), at(top-1, top), api.ErrEpoch},
		{2, at(0, half), at(0, half-1), api.ErrEpoch},
		{3, at(2, 3, 4), at(2, 3, 4), api.OK},
		{3, at(2, 3, 4), at(2, 3, 5), api.OK},
		{3, at(2, 3, 4), at(2, 3, 3), api.ErrEpoch},
		{3, at(2, 3, 4), at(9, 9, 3), api.ErrEpoch},
		{3, at(2, 3, 4), at(9, 2, 9), api.ErrEpoch},
		{3, at(2, 3, 4), at(1, 9, 9), api.ErrEpoch},
		{3, at(0, 0, 1), at(top, top, 0), api.ErrEpoch},
		{3, at(top, top, top), at(top, top, top), api.OK},
		{3, at(top, top, top), at(top, top, half), api.ErrEpoch},
		{3, at(0, 0, half), at(0, 0, top), api.OK},
	} {
		s := gone(t, c.arity, c.epoch)
		sends(t, s, c.t, c.want)
		advances(t, s, c.t, c.want)
	}
}

func TestAllPairsOfTimes(t *testing.T) { // P23.2, P23.3
	for arity := 1; arity <= 3; arity++ {
		l := fitting(arity)
		for _, epoch := range l {
			for _, u := range l {
				want := api.OK
				if u.A < epoch.A || u.B < epoch.B || u.C < epoch.C {
					want = api.ErrEpoch
				}
				s := gone(t, arity, epoch)
				sends(t, s, u, want)
				advances(t, s, u, want)
			}
		}
	}
}

func TestTheFirstErrorThatApplies(t *testing.T) { // P23.2, P23.3, P4
	for arity := 1; arity <= 2; arity++ {
		// Each has a number that doesn't count; the first three stand ahead of the epoch, or apart from it, too.
		epoch := at(7, 7)
		if arity == 1 {
			epoch = at(7)
		}
		for _, u := range []api.Time{at(6, 6, 1), at(0, 0, 1), at(6, 7, top), at(7, 7, half), at(9, 9, 9)} {
			s := gone(t, arity, epoch)
			sends(t, s, u, api.ErrArity)
			advances(t, s, u, api.ErrArity)
			closes(t, s, api.OK)
			sends(t, s, u, api.ErrArity)
			advances(t, s, u, api.ErrArity)
		}
	}
	for _, u := range []api.Time{at(6, 1), at(0, 1), at(7, 1), at(0, top)} {
		s := gone(t, 1, at(7))
		sends(t, s, u, api.ErrArity)
		advances(t, s, u, api.ErrArity)
		closes(t, s, api.OK)
		sends(t, s, u, api.ErrArity)
		advances(t, s, u, api.ErrArity)
	}
	// Closed ahead of the epoch: times ahead of what was the last epoch, at it, behind it, apart from it.
	s := shut(t, 2, at(7, 7))
	for _, u := range []api.Time{at(), at(6, 7), at(7, 6), at(7, 7), at(8, 8), at(0, 9), at(9, 0), at(top, top)} {
		sends(t, s, u, api.ErrClosed)
		advances(t, s, u, api.ErrClosed)
	}
}

func TestAdvance(t *testing.T) { // P23.3
	s := made(t, 2)
	advances(t, s, at(), api.OK) // to the epoch itself
	advances(t, s, at(2, 1), api.OK)
	advances(t, s, at(2, 1), api.OK)
	advances(t, s, at(2, 1), api.OK)
	sends(t, s, at(2, 0), api.ErrEpoch)
	sends(t, s, at(2, 1), api.OK)
	advances(t, s, at(1, 9), api.ErrEpoch)
	advances(t, s, at(9, 0), api.ErrEpoch)
	advances(t, s, at(2, 0), api.ErrEpoch)
	advances(t, s, at(), api.ErrEpoch)
	advances(t, s, at(2, 9, 1), api.ErrArity)
	sends(t, s, at(2, 1), api.OK) // what was refused has changed nothing
	advances(t, s, at(2, 9), api.OK)
	sends(t, s, at(2, 8), api.ErrEpoch)
	advances(t, s, at(top, 9), api.OK)
	advances(t, s, at(top, top), api.OK)
	advances(t, s, at(top, top), api.OK)
	advances(t, s, at(top, top-1), api.ErrEpoch)
	sends(t, s, at(top, top), api.OK)
	closes(t, s, api.OK)
}

func TestLongRows(t *testing.T) { // P23.3, P23.6
	s := made(t, 3)
	var n [api.MaxArity]uint64
	for i := range 30000 {
		n[i%len(n)] += uint64(i % 5)
		advances(t, s, at(n[:]...), api.OK)
		if n[2] > 0 {
			advances(t, s, at(n[0]+1, n[1]+1, n[2]-1), api.ErrEpoch)
		}
	}
	hasEpoch(t, s, at(n[:]...), true)
	for range 1000 {
		advances(t, s, at(n[:]...), api.OK)
	}
}

func TestClose(t *testing.T) { // P23.4, P23.5
	for arity := 1; arity <= 3; arity++ {
		last := fitting(arity)
		for _, u := range []api.Time{at(), at(5), last[len(last)-1]} {
			s := gone(t, arity, u)
			closes(t, s, api.OK)
			for range 3 {
				isClosed(t, s, arity)
			}
		}
		s := made(t, arity) // at once
		closes(t, s, api.OK)
		closes(t, s, api.ErrClosed)
		closes(t, s, api.ErrClosed)
		isClosed(t, s, arity)
	}
}
