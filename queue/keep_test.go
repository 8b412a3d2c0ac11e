package queue

import (
	"math"
	"slices"
	"sync"
	"testing"

	"sluice/api"
)

// isNobody asks a nil queue by all calls: each one answers zero values.
func isNobody(t *testing.T, q *Queue) {
	t.Helper()
	for _, place := range []int{0, 1, -1, 191, 192, math.MaxInt, math.MinInt} {
		if e := q.Put(m(place, 1, 2, 3)); e != api.OK {
			t.Errorf("Put at %d: %d", place, e)
		}
		if x, e := q.Take(place); x != (api.Message{}) || e != api.OK {
			t.Errorf("Take(%d): %v, %d", place, x, e)
		}
		drains(t, q, place)
		waits(t, q, place)
	}
	counts(t, q, 0)
	if q.Copy() != nil {
		t.Errorf("Copy: %v", q.Copy())
	}
}

func TestANilOne(t *testing.T) { // P1
	isNobody(t, nil)
	// What New answers beside an error may be asked, too.
	q, _ := New(-1)
	isNobody(t, q)
}

func TestOneThatNewDidNotMake(t *testing.T) { // P1: no answer of it is promised, but that each call ends without a panic
	for _, q := range []*Queue{{}, new(Queue).Copy()} {
		for place := -1; place <= 192; place++ {
			q.Put(m(place, 1, 2, 3))
			q.List(place)
			q.Len(place)
			q.Take(place)
			q.Drain(place)
		}
		q.Total()
		q.Counts()
		q.Copy().Counts()
	}
}

// some is a queue of four places; messages wait at two of them, and from three of them some were taken already.
func some(t *testing.T) *Queue {
	q := begin(t, 4)
	puts(t, q, m(1, 9, 9, 9), m(1, 5, 7, 8), m(1, 4, 0, 0), m(1, 5, 9, 9))
	puts(t, q, m(0, 1, 0, 0), m(0, 1, 0, 0))
	puts(t, q, m(3, 8, 8, 8), m(3, 2, 6, 6))
	takes(t, q, 1, m(1, 9, 9, 9))
	takes(t, q, 0, m(0, 1, 0, 0))
	drains(t, q, 0, m(0, 1, 0, 0))
	takes(t, q, 3, m(3, 8, 8, 8))
	return q
}

// first is what waits at place 1 of some.
func first() []api.Message { return []api.Message{m(1, 5, 7, 8), m(1, 4, 0, 0), m(1, 5, 9, 9)} }

// hasSome tells that there waits what some has put there, but at place 1 what is said here.
func hasSome(t *testing.T, q *Queue, want ...api.Message) {
	t.Helper()
	waits(t, q, 0)
	waits(t, q, 1, want...)
	waits(t, q, 2)
	waits(t, q, 3, m(3, 2, 6, 6))
	if q.Total() != 1+len(want) {
		t.Errorf("Total: %d, want %d", q.Total(), 1+len(want))
	}
	if e := q.Put(m(4, 0, 0, 0)); e != api.ErrPlace {
		t.Errorf("Put at 4: %d", e)
	}
}

// overwrite writes over a list, into its spare room and into what it grows to.
func overwrite[T any](l []T, v T) {
	grown := append(l, v)
	for _, x := range [][]T{l[:cap(l)], grown[:cap(grown)]} {
		for i := range x {
			x[i] = v
		}
	}
}

func TestWhatIsToldIsNewMemory(t *testing.T) { // P2
	junk := m(2, 77, 77, 77)
	told := []api.Change{count(1, api.Time{A: 4}, 1), count(1, api.Time{A: 5}, 2), count(3, api.Time{A: 2}, 1)}
	q := some(t)
	list, other := q.List(1), q.List(1)
	all, others := q.Counts(), q.Counts()
	overwrite(list, junk)
	overwrite(all, count(2, api.Time{A: 77}, 77))
	hasSome(t, q, first()...)
	counts(t, q, 4, told...)
	if !slices.Equal(other, first()) || !slices.Equal(others, told) {
		t.Errorf("other answers have changed: %v, %v", other, others)
	}
	// They stay as they were, when the queue changes.
	takes(t, q, 1, first()[:2]...)
	puts(t, q, numbered(1, 0, 9)...)
	drains(t, q, 3, m(3, 2, 6, 6))
	if !slices.Equal(other, first()) || !slices.Equal(others, told) {
		t.Errorf("what was answered has changed behind later calls: %v, %v", other, others)
	}
}

func TestWhatIsDrainedIsNewMemory(t *testing.T) { // P2
	// From a ring at each turn.
	for turned := range 12 {
		q := begin(t, 1)
		puts(t, q, numbered(0, 0, 5)...)
		for i := range turned {
			takes(t, q, 0, m(0, 1, 2, uint64(i)))
			puts(t, q, m(0, 1, 2, uint64(5+i)))
		}
		c := q.Copy()
		listed := q.List(0)
		drained, e := q.Drain(0)
		if e != api.OK || !slices.Equal(drained, numbered(0, turned, 5)) {
			t.Fatalf("Drain: %v, %d", drained, e)
		}
		puts(t, q, numbered(0, 50, 9)...)
		takes(t, q, 0, numbered(0, 50, 3)...)
		if !slices.Equal(drained, numbered(0, turned, 5)) {
			t.Errorf("what was drained has changed behind later calls: %v", drained)
		}
		overwrite(drained, m(0, 77, 77, 77))
		waits(t, q, 0, numbered(0, 53, 6)...)
		waits(t, c, 0, numbered(0, turned, 5)...)
		if !slices.Equal(listed, numbered(0, turned, 5)) {
			t.Errorf("what was listed has changed: %v", listed)
		}
	}
}

func TestNoneToldMayBeGrown(t *testing.T) { // P2
	q := begin(t, 2)
	for range 2 {
		none, _ := q.Drain(0)
		overwrite(none, m(0, 1, 1, 1))
		overwrite(q.List(0), m(0, 1, 1, 1))
		overwrite(q.List(9), m(0, 1, 1, 1))
		overwrite(q.Counts(), count(0, api.Time{}, 1))
		isEmpty(t, q, 0)
		isEmpty(t, q, 1)
	}
}

func TestWhatIsRefusedChangesNothing(t *testing.T) { // P3, P4
	q := some(t)
	for i, refused := range []func() api.Errno{
		func() api.Errno { return q.Put(m(4, 1, 1, 1)) },
		func() api.Errno { return q.Put(m(-1, 1, 1, 1)) },
		func() api.Errno { return q.Put(m(math.MinInt, 1, 1, 1)) },
		func() api.Errno { _, e := q.Take(4); return e },
		func() api.Errno { _, e := q.Take(-1); return e },
		func() api.Errno { _, e := q.Take(0); return e },
		func() api.Errno { _, e := q.Take(2); return e },
		func() api.Errno { _, e := q.Drain(4); return e },
		func() api.Errno { _, e := q.Drain(-1); return e },
	} {
		if refused() == api.OK {
			t.Errorf("call %d is not refused", i)
		}
		hasSome(t, q, first()...)
	}
}

func TestCopyAndThenCalls(t *testing.T) { // P19.3, P5
	calls := []struct {
		act  func(q *Queue)
		want []api.Message
	}{
		{func(q *Queue) {}, first()},
		{func(q *Queue) { puts(t, q, m(1, 1, 1, 1)) }, append(first(), m(1, 1, 1, 1))},
		{func(q *Queue) { puts(t, q, numbered(1, 0, 9)...) }, append(first(), numbered(1, 0, 9)...)},
		{func(q *Queue) { takes(t, q, 1, first()[0]) }, first()[1:]},
		{func(q *Queue) { takes(t, q, 1, first()[:2]...); puts(t, q, m(1, 2, 2, 2)) }, []api.Message{first()[2], m(1, 2, 2, 2)}},
		{func(q *Queue) { takes(t, q, 1, first()...); isEmpty(t, q, 1) }, nil},
		{func(q *Queue) { drains(t, q, 1, first()...) }, nil},
		{func(q *Queue) { drains(t, q, 1, first()...); puts(t, q, m(1, 3, 3, 3)) }, []api.Message{m(1, 3, 3, 3)}},
		{func(q *Queue) { puts(t, q, m(0, 4, 4, 4)); takes(t, q, 0, m(0, 4, 4, 4)) }, first()},
		{func(q *Queue) { puts(t, q, m(2, 4, 4, 4)); drains(t, q, 2, m(2, 4, 4, 4)) }, first()},
		{func(q *Queue) { isNoPlace(t, q, 4); isEmpty(t, q, 2) }, first()},
	}
	for _, one := range calls {
		for _, other := range calls {
			q := some(t)
			c := q.Copy()
			one.act(q)
			hasSome(t, c, first()...)
			other.act(c)
			hasSome(t, q, one.want...)
			hasSome(t, c, other.want...)
			takes(t, q, 1, one.want...)
			takes(t, c, 1, other.want...)
			hasSome(t, q)
			hasSome(t, c)
		}
	}
}

func TestCopyAtEachTurn(t *testing.T) { // P19.3, P5
	for many := 1; many <= 16; many++ {
		for turned := range 2 * many {
			q := begin(t, 1)
			puts(t, q, numbered(0, 0, many)...)
			for i := range turned {
				takes(t, q, 0, m(0, 1, 2, uint64(i)))
				puts(t, q, m(0, 1, 2, uint64(many+i)))
			}
			c := q.Copy()
			waits(t, c, 0, numbered(0, turned, many)...)
			takes(t, q, 0, m(0, 1, 2, uint64(turned)))
			puts(t, q, numbered(0, 900, 2*many)...)
			waits(t, c, 0, numbered(0, turned, many)...)
			puts(t, c, numbered(0, turned+many, 3)...)
			takes(t, c, 0, numbered(0, turned, many+3)...)
			isEmpty(t, c, 0)
			takes(t, q, 0, numbered(0, turned+1, many-1)...)
			drains(t, q, 0, numbered(0, 900, 2*many)...)
		}
	}
}

func TestCopiesOfCopies(t *testing.T) { // P19.3, P5
	q := some(t)
	c := q.Copy()
	d := c.Copy()
	e := q.Copy().Copy().Copy()
	puts(t, q, m(1, 1, 1, 1))
	puts(t, c, m(1, 2, 2, 2))
	puts(t, d, m(1, 3, 3, 3))
	takes(t, c, 1, first()[0])
	f := c.Copy()
	takes(t, f, 1, first()[1:]...)
	hasSome(t, q, append(first(), m(1, 1, 1, 1))...)
	hasSome(t, c, append(first()[1:], m(1, 2, 2, 2))...)
	hasSome(t, d, append(first(), m(1, 3, 3, 3))...)
	hasSome(t, e, first()...)
	hasSome(t, f, m(1, 2, 2, 2))
}

func TestCopyOfAQueueWithNothingInIt(t *testing.T) { // P19.3
	for _, places := range []int{0, 1, 2, 192} {
		q := begin(t, places)
		c := q.Copy()
		if c == nil || c == q {
			t.Fatalf("Copy of %d places: %v", places, c)
		}
		counts(t, c, 0)
		isNoPlace(t, c, places)
		for place := range places {
			puts(t, c, m(place, 1, 1, 1))
			isEmpty(t, q, place)
			puts(t, q, m(place, 2, 2, 2))
			waits(t, c, place, m(place, 1, 1, 1))
		}
	}
}

func TestTwoHaveNothingToDoWithEachOther(t *testing.T) { // P5
	p, q := begin(t, 3), begin(t, 2)
	puts(t, p, m(1, 1, 1, 1), m(1, 3, 3, 3))
	isEmpty(t, q, 1)
	puts(t, q, m(1, 4, 4, 4), m(1, 6, 6, 6))
	puts(t, p, m(1, 2, 2, 2))
	takes(t, q, 1, m(1, 4, 4, 4))
	drains(t, p, 1, m(1, 1, 1, 1), m(1, 3, 3, 3), m(1, 2, 2, 2))
	waits(t, q, 1, m(1, 6, 6, 6))
	isNoPlace(t, q, 2)
	isEmpty(t, p, 2)
}

func TestManyAtOnce(t *testing.T) { // P3, P5
	shared := some(t)
	var group sync.WaitGroup
	for range 8 {
		group.Go(func() {
			own := shared.Copy()
			takes(t, own, 1, first()[:2]...)
			puts(t, own, m(1, 1, 1, 1))
			hasSome(t, own, first()[2], m(1, 1, 1, 1))
			drains(t, own, 1, first()[2], m(1, 1, 1, 1))
			waits(t, shared, 1, first()...)
			counts(t, shared, 4, count(1, api.Time{A: 4}, 1), count(1, api.Time{A: 5}, 2), count(3, api.Time{A: 2}, 1))
		})
	}
	group.Wait()
	hasSome(t, shared, first()...)
}
