package worker

import (
	"errors"
	"math"
	"testing"

	"sluice/api"
	"sluice/batch"
)

// stays holds that a worker is as it was behind something that is refused.
func stays(t *testing.T, w *Worker, what string, call func()) {
	t.Helper()
	was := w.Copy()
	call()
	if !alike(w, was) {
		t.Errorf("%s was refused, and has changed something", what)
	}
}

func passesNot(t *testing.T, w *Worker, m api.Message, want api.Errno) {
	t.Helper()
	stays(t, w, "Pass", func() {
		if e := w.Pass(m); e != want {
			t.Errorf("Pass(%v) = %d, want %d", m, e, want)
		}
	})
}

func TestPass(t *testing.T) { // P25.6
	w := begin(t, kinds(), 3, 2)
	ins := map[int]bool{1: true, 3: true, 5: true, 6: true, 8: true, 10: true, 12: true, 13: true}
	kept := w.Counts()
	for place := range 15 {
		if !ins[place] {
			passesNot(t, w, msg(place, at(), 1, 1), api.ErrPlace)
			passesNot(t, w, msg(place, at(0, 1), 1, 1), api.ErrPlace)
			continue
		}
		for _, u := range [][]uint64{{0, 1}, {5, 0, 1}, {0, last, last}} {
			passesNot(t, w, msg(place, at(u...), 1, 1), api.ErrArity)
		}
		passes(t, w, msg(place, at(7), 1, 1), msg(place, at(last), 2, 2))
		waits(t, w, place, 2)
	}
	for _, place := range []int{-1, 15, math.MaxInt, math.MinInt} {
		passesNot(t, w, msg(place, at(), 1, 1), api.ErrPlace)
		passesNot(t, w, msg(place, at(0, 1), 1, 1), api.ErrPlace)
	}
	// No count goes by it, and so no front.
	counts(t, w, kept...)
	if l := w.Tokens(); len(l) != 18 {
		t.Errorf("Tokens: %v", l)
	}
}

func TestPassOfEachArity(t *testing.T) { // P25.6
	for arity := 1; arity <= api.MaxArity; arity++ {
		g := nodes(trap())
		g.Arity = arity
		w := alone(t, g)
		passes(t, w, msg(0, at(1), 1, 1))
		for i, u := range []api.Time{at(1, 1), at(1, 0, 1), at(1, 1, 1)} {
			if arity > min(i+1, 2) {
				passes(t, w, msg(0, u, 1, 1))
			} else {
				passesNot(t, w, msg(0, u, 1, 1), api.ErrArity)
			}
		}
	}
}

func TestPassLetsWaitBehindTheOthers(t *testing.T) { // P25.6
	w := alone(t, taking())
	for i := range uint64(40) {
		passes(t, w, msg(0, at(40-i), i, i))
		if i%3 == 0 {
			mints(t, take(0).of(w), msg(0, at(40-i/3), i/3, i/3), int(2*(i/3)+1), int(2*(i/3)+2))
		}
	}
	waits(t, w, 0, 26)
}

func hearsNot(t *testing.T, w *Worker, b []byte, want api.Errno) error {
	t.Helper()
	var err error
	stays(t, w, "Hear", func() { err = w.Hear(b) })
	for e := api.OK - 1; e <= api.ErrLine+1; e++ {
		if errors.Is(err, e) != (e == want) {
			t.Errorf("Hear(% x) = %v: looked for %d, want %d", b, err, e, want)
		}
	}
	var e api.Errno
	if !errors.As(err, &e) || e != want {
		t.Errorf("Hear(% x) = %v: %d is found, want %d", b, err, e, want)
	}
	return err
}

func TestHear(t *testing.T) { // P25.6
	w := begin(t, summed(), 3, 1)
	hears(t, w)
	hears(t, w, ch(0, -1, 0), ch(0, 1, 2), ch(1, 4, 1))
	counts(t, w, ch(0, 2, 0), ch(0, 1, 2), ch(1, 4, 1))
	tokens(t, w, ch(0, 1, 0))
	fronts(t, w, 3, at())
	hears(t, w, ch(0, -2, 0), ch(3, -7, 0))
	counts(t, w, ch(0, 1, 2), ch(1, 4, 1), ch(3, -7, 0))
	fronts(t, w, 3, at(1))
	waits(t, w, 1, 0)
}

func TestWhatHearIsRefusedBy(t *testing.T) { // P25.6
	w := begin(t, summed(), 2, 0)
	for _, c := range []struct {
		b     []byte
		fault batch.Fault
	}{
		{[]byte{0}, batch.Fault{At: 0, Err: api.ErrForm}},
		{[]byte{1, 0}, batch.Fault{At: 2, Err: api.ErrShort}},
		{[]byte{1, 0, 0, 0, 0, 0}, batch.Fault{At: 5, Err: api.ErrForm}},
		{[]byte{1, 0xC0, 1, 0, 0, 0, 2}, batch.Fault{At: 1, Err: api.ErrRange}},
		{append(put(t, ch(0, 1, 0)), 0), batch.Fault{At: 6, Err: api.ErrRest}},
	} {
		f, ok := hearsNot(t, w, c.b, c.fault.Err).(*batch.Fault)
		if !ok || *f != c.fault {
			t.Errorf("Hear(% x) = %v, want %v", c.b, f, c.fault)
		}
	}
	hearsNot(t, w, put(t, ch(4, 1, 0)), api.ErrPlace)
	hearsNot(t, w, put(t, ch(0, 1, 0, 1), ch(191, 1, 0)), api.ErrArity)
	hearsNot(t, w, put(t, ch(0, most, 0), ch(0, 1, 0, 1)), api.ErrArity)
	hearsNot(t, w, put(t, ch(0, most-1, 0), ch(1, 1, 0)), api.ErrRange)
	hears(t, w, ch(0, most-2, 0), ch(1, -most, 0))
	hearsNot(t, w, put(t, ch(0, 1, 0)), api.ErrRange)
	hearsNot(t, w, put(t, ch(0, -1, 0), ch(1, -1, 0)), api.ErrRange)
}

func TestCountsAtTheEndsOfTheirRange(t *testing.T) { // P25.6, P25.8: each act that would go beyond them
	w := alone(t, summed())
	hears(t, w, ch(1, most, 3))
	refuses(t, w, send(0, at(3), rec(7, 1), 9), api.ErrRange)
	refuses(t, w, send(0, at(3), rec(7, 1), 0), api.ErrFull)
	hears(t, w, ch(1, -1, 3))
	does(t, w, send(0, at(3), rec(7, 1), 9), ch(1, 1, 3))
	passes(t, w, msg(1, at(3), 7, 2))
	hears(t, w, ch(1, -most, 3))
	hears(t, w, ch(1, 1-most, 3))
	counts(t, w, ch(0, 1, 0), ch(1, 1-most, 3))
	// Two are taken: one too many.
	refuses(t, w, step(9), api.ErrRange)
	refuses(t, w, run(1, 9), api.ErrRange)
	hears(t, w, ch(1, 1, 3))
	does(t, w, run(1, 0), ch(1, -2, 3), ch(2, 1, 3))
	counts(t, w, ch(0, 1, 0), ch(1, -most, 3), ch(2, 1, 3))
	// The sum's own capability, when it is made, and when it is told.
	hears(t, w, ch(2, most, 4), ch(2, -most, 5))
	passes(t, w, msg(1, at(4), 7, 2))
	refuses(t, w, step(9), api.ErrRange)
	hears(t, w, ch(2, -1, 4))
	does(t, w, step(0), ch(1, -1, 4), ch(2, 1, 4))
	hears(t, w, ch(0, -1, 0), ch(2, -most, 3))
	hears(t, w, ch(2, -1, 3))
	refuses(t, w, step(9), api.ErrRange)
	hears(t, w, ch(2, 1, 3))
	does(t, w, step(9), ch(2, -1, 3), ch(2, -1, 4))
	catches(t, w, 2, caught(at(3), 7, 3), caught(at(4), 7, 2))
}

func TestItIsTheWholeOfAnActThatCounts(t *testing.T) { // DOC.md, Counts
	// A map into a probe: what one makes the other takes.
	w := alone(t, row(mapper(), trap()))
	hears(t, w, ch(2, most, 1))
	passes(t, w, msg(0, at(1), 1, 1))
	refuses(t, w, run(0, 9), api.ErrRange)
	does(t, w, step(0), ch(0, -1, 1))
	// A capability that goes on to where it stands.
	w = alone(t, starting())
	hears(t, w, ch(0, most-1, 0))
	does(t, w, lower(1, at()))
	refuses(t, w, clone(1), api.ErrRange)
	does(t, w, lower(1, at(1)), ch(0, -1, 0), ch(0, 1, 1))
}
