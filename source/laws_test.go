package source

import (
	"slices"
	"testing"

	"sluice/api"
	"sluice/draws"
)

// plain is an input by the words of the promises: all epochs that it ever had, and whether it is closed.
type plain struct {
	arity  int
	epochs []api.Time
	closed bool
}

// numbers of a time, so that each is asked for by its place.
func numbers(t api.Time) [api.MaxArity]uint64 { return [api.MaxArity]uint64{t.A, t.B, t.C} }

func (p *plain) send(t api.Time) api.Errno {
	for i, n := range numbers(t) {
		if i >= p.arity && n != 0 {
			return api.ErrArity
		}
	}
	if p.closed {
		return api.ErrClosed
	}
	epoch := numbers(p.epochs[len(p.epochs)-1])
	for i, n := range numbers(t) {
		if n < epoch[i] {
			return api.ErrEpoch
		}
	}
	return api.OK
}

func (p *plain) advance(t api.Time) api.Errno {
	e := p.send(t)
	if e == api.OK {
		p.epochs = append(p.epochs, t)
	}
	return e
}

func (p *plain) close() api.Errno {
	if p.closed {
		return api.ErrClosed
	}
	p.closed = true
	return api.OK
}

func (p *plain) epoch() (api.Time, bool) {
	if p.closed {
		return api.Time{}, false
	}
	return p.epochs[len(p.epochs)-1], true
}

func (p *plain) copied() *plain { return &plain{p.arity, slices.Clone(p.epochs), p.closed} }

// pair is an input, what is to be told of it, and which epochs it has told itself.
type pair struct {
	s    *Source
	p    *plain
	told *[]api.Time
}

func (x pair) copied() pair {
	told := slices.Clone(*x.told)
	return pair{x.s.Copy(), x.p.copied(), &told}
}

// nearby draws times around an epoch, some of which do not fit the arity.
func nearby(next func(below int) int, epoch api.Time, arity int) api.Time {
	n := numbers(epoch)
	for i := range n {
		if i >= arity && next(4) > 0 {
			continue
		}
		switch next(12) {
		case 0:
			n[i] -= min(n[i], 1)
		case 1, 2, 3:
			n[i]++
		case 4:
			n[i] += uint64(next(4))
		case 5:
			if next(60) == 0 {
				n[i] = []uint64{0, half, top}[next(3)]
			}
		}
	}
	return at(n[:]...)
}

// drawn does one call of both, drawn by next: what each answers.
func (x pair) drawn(next func(below int) int) (got, want api.Errno) {
	u := nearby(next, x.p.epochs[len(x.p.epochs)-1], x.p.arity)
	switch draw := next(200); {
	case draw == 0:
		return x.s.Close(), x.p.close()
	case draw < 60:
		return x.s.Send(u), x.p.send(u)
	}
	return x.s.Advance(u), x.p.advance(u)
}

// alike tells whether both tell the same epoch, and keeps which one it is.
func (x pair) alike() bool {
	u, open := x.s.Epoch()
	if open {
		*x.told = append(*x.told, u)
	}
	v, still := x.p.epoch()
	return u == v && open == still
}

func TestDrawnCalls(t *testing.T) { // P23.1 to P23.7, P3
	var often [api.ErrEpoch + 1]int
	for seed := range uint64(150) {
		next := draws.Numbers(seed)
		arity := 1 + next(3)
		pairs := []pair{{made(t, arity), &plain{arity: arity, epochs: []api.Time{{}}}, &[]api.Time{}}}
		for i := range 400 {
			x := pairs[next(len(pairs))]
			got, want := x.drawn(next)
			if got != want {
				t.Fatalf("seed %d, call %d: %d, want %d", seed, i, got, want)
			}
			often[got]++
			if len(pairs) < 6 && next(40) == 0 {
				pairs = append(pairs, x.copied())
			}
			for j, y := range pairs {
				if !y.alike() {
					u, open := y.s.Epoch()
					t.Fatalf("seed %d, call %d, of the pair %d: Epoch: %v, %v", seed, i, j, u, open)
				}
			}
		}
		for _, x := range pairs {
			goesOn(t, *x.told)
		}
	}
	for _, e := range []api.Errno{api.OK, api.ErrArity, api.ErrClosed, api.ErrEpoch} {
		if often[e] < 3000 {
			t.Errorf("the draws answer %d only %d times", e, often[e])
		}
	}
}

// goesOn tells whether of these epochs each is at or ahead of every later one.
func goesOn(t *testing.T, epochs []api.Time) { // P23.6
	t.Helper()
	l := slices.Compact(slices.Clone(epochs))
	for i, u := range l {
		for _, v := range l[i:] {
			if u.A > v.A || u.B > v.B || u.C > v.C {
				t.Errorf("the epoch has gone from %v to %v", u, v)
			}
		}
	}
}

func TestSendTellsWhatAdvanceWould(t *testing.T) { // P23.2, P23.3
	for seed := range uint64(60) {
		next := draws.Numbers(seed)
		arity := 1 + next(3)
		s := made(t, arity)
		for i := range 300 {
			epoch, _ := s.Epoch()
			u := nearby(next, epoch, arity)
			said := s.Send(u)
			if e := s.Copy().Advance(u); e != said {
				t.Fatalf("seed %d, call %d: Advance(%v): %d, Send has said %d", seed, i, u, e, said)
			}
			if next(2) == 0 {
				advances(t, s, u, said)
			}
			if next(200) == 0 {
				s.Close()
			}
		}
	}
}

func TestEveryEpochIsAheadOfAllLaterOnes(t *testing.T) { // P23.6
	for arity := 1; arity <= 3; arity++ {
		for seed := range uint64(40) {
			next := draws.Numbers(seed)
			s := made(t, arity)
			epochs := []api.Time{{}}
			for range 300 {
				var n [api.MaxArity]uint64
				for i := range arity {
					n[i] = []uint64{uint64(next(40)), uint64(next(1000)), uint64(next(1000)) << 50}[next(3)]
				}
				s.Advance(at(n[:]...))
				u, open := s.Epoch()
				if !open {
					t.Fatal("it is closed")
				}
				epochs = append(epochs, u)
			}
			goesOn(t, epochs)
		}
	}
}
