package caps

import (
	"math"
	"slices"
	"sync"
	"testing"

	"sluice/api"
)

func TestANilOne(t *testing.T) { // P1
	var c *Caps
	for range 2 {
		if n, e := c.Mint(at(3, 1)); n != 0 || e != api.OK {
			t.Errorf("Mint: %d, %d", n, e)
		}
		for _, id := range []int{0, 1, -1, math.MaxInt, math.MinInt} {
			if s, e := c.Get(id); s != (api.Stamp{}) || e != api.OK {
				t.Errorf("Get(%d): %v, %d", id, s, e)
			}
			if e := c.Lower(id, time(1)); e != api.OK {
				t.Errorf("Lower(%d): %d", id, e)
			}
			if e := c.Drop(id); e != api.OK {
				t.Errorf("Drop(%d): %d", id, e)
			}
		}
		if all := c.All(); len(all) != 0 {
			t.Errorf("All: %v", all)
		}
		if c.Copy() != nil {
			t.Error("Copy of a nil one is one")
		}
	}
}

// begin is one that holds 2, 3 and 5 of at most 4, and whose last number is 5.
func begin(t *testing.T) *Caps {
	c := New(4)
	for id := 1; id <= 4; id++ {
		mints(t, c, at(id, 1), id)
	}
	isFull(t, c)
	drops(t, c, 1, 4)
	mints(t, c, at(5, 1), 5)
	lowers(t, c, 3, time(2, 7), api.OK)
	return c
}

func held() []api.Held {
	return []api.Held{{ID: 2, S: at(2, 1)}, {ID: 3, S: at(3, 2, 7)}, {ID: 5, S: at(5, 1)}}
}

func TestAllIsNewMemory(t *testing.T) { // P13.6, P2
	c := begin(t)
	one, two := c.All(), c.All()
	grown := append(one, api.Held{ID: 77})
	for _, l := range [][]api.Held{one[:cap(one)], grown[:cap(grown)]} {
		for i := range l {
			l[i] = api.Held{ID: 99, S: at(99, 99)}
		}
	}
	if !slices.Equal(two, held()) {
		t.Errorf("another answer has changed: %v", two)
	}
	holds(t, c, held()...)
	hasNone(t, c, 77, 99)
	drops(t, c, 2, 3)
	lowers(t, c, 5, time(9), api.OK)
	if !slices.Equal(two, held()) {
		t.Errorf("what was answered has changed behind later calls: %v", two)
	}
	mints(t, c, at(1), 6)
}

func TestWhatIsRefusedChangesNothing(t *testing.T) { // P3, P4
	for _, most := range []int{3, 4} { // full, and not
		c := New(most)
		for id := 1; id <= 3; id++ {
			mints(t, c, at(id, 5, 5), id)
		}
		want := c.All()
		refusals := []func() api.Errno{
			func() api.Errno { return c.Drop(4) },
			func() api.Errno { return c.Drop(0) },
			func() api.Errno { return c.Lower(4, time(9, 9)) },
			func() api.Errno { return c.Lower(4, time(0)) },
			func() api.Errno { return c.Lower(1, time(4, 5)) },
			func() api.Errno { return c.Lower(2, time(9, 4)) },
			func() api.Errno { _, e := c.Get(4); return e },
		}
		if most == 3 {
			refusals = append(refusals, func() api.Errno { _, e := c.Mint(at(0)); return e })
		}
		for i, refused := range refusals {
			if refused() == api.OK {
				t.Errorf("call %d is not refused", i)
			}
			holds(t, c, want...)
		}
		drops(t, c, 1)
		mints(t, c, at(7), 4)
		holds(t, c, want[1], want[2], api.Held{ID: 4, S: at(7)})
	}
}

func TestCopyAndThenCalls(t *testing.T) { // P13.7, P5
	h := held()
	calls := []struct {
		act  func(c *Caps)
		want []api.Held
		next int // the number that the next Mint answers; 0: it is refused
	}{
		{func(c *Caps) {}, h, 6},
		{func(c *Caps) { mints(t, c, at(8, 8), 6) }, slices.Concat(h, []api.Held{{ID: 6, S: at(8, 8)}}), 0},
		{func(c *Caps) { mints(t, c, at(8, 8), 6); isFull(t, c) }, slices.Concat(h, []api.Held{{ID: 6, S: at(8, 8)}}), 0},
		{func(c *Caps) { mints(t, c, at(9), 6); drops(t, c, 6) }, h, 7},
		{func(c *Caps) { drops(t, c, 3) }, []api.Held{h[0], h[2]}, 6},
		{func(c *Caps) { drops(t, c, 2, 3, 5) }, nil, 6},
		{func(c *Caps) { lowers(t, c, 2, time(4, 4), api.OK) }, []api.Held{{ID: 2, S: at(2, 4, 4)}, h[1], h[2]}, 6},
		{func(c *Caps) { lowers(t, c, 3, time(9, 6), api.ErrBack) }, h, 6},
		{func(c *Caps) { hasNone(t, c, 1, 4, 6) }, h, 6},
	}
	check := func(c *Caps, want []api.Held, next int) {
		t.Helper()
		holds(t, c, want...)
		if next == 0 {
			isFull(t, c)
			return
		}
		mints(t, c, at(-1), next)
	}
	for _, one := range calls {
		for _, other := range calls {
			c := begin(t)
			d := c.Copy()
			one.act(c)
			other.act(d)
			check(c, one.want, one.next)
			check(d, other.want, other.next)
		}
	}
}

func TestCopyOfOneThatHoldsNone(t *testing.T) { // P13.7
	for _, most := range []int{-1, 0} {
		d := New(most).Copy()
		if d == nil {
			t.Fatal("Copy is nil")
		}
		isFull(t, d)
		holds(t, d)
	}
	c := New(1)
	d := c.Copy()
	mints(t, d, at(4), 1)
	isFull(t, d)
	holds(t, c)
	mints(t, c, at(5), 1)
	drops(t, c, 1)
	f := c.Copy().Copy() // all were dropped, and the numbers go on
	mints(t, f, at(6), 2)
	mints(t, c, at(7), 2)
	holds(t, f, api.Held{ID: 2, S: at(6)})
	holds(t, c, api.Held{ID: 2, S: at(7)})
	holds(t, d, api.Held{ID: 1, S: at(4)})
}

func TestTwoHaveNothingToDoWithEachOther(t *testing.T) { // P5
	c, d := New(1), New(2)
	mints(t, c, at(1), 1)
	holds(t, d)
	mints(t, d, at(2), 1)
	mints(t, d, at(3), 2)
	isFull(t, c)
	drops(t, c, 1)
	holds(t, d, api.Held{ID: 1, S: at(2)}, api.Held{ID: 2, S: at(3)})
	lowers(t, d, 1, time(5), api.OK)
	mints(t, c, at(4), 2)
	holds(t, c, api.Held{ID: 2, S: at(4)})
	holds(t, d, api.Held{ID: 1, S: at(2, 5)}, api.Held{ID: 2, S: at(3)})
}

func TestManyAtOnce(t *testing.T) { // P3, P5
	shared := begin(t)
	var group sync.WaitGroup
	for range 8 {
		group.Go(func() {
			own := shared.Copy()
			mints(t, own, at(1), 6)
			isFull(t, own)
			drops(t, own, 2, 5)
			lowers(t, own, 3, time(3, 7), api.OK)
			holds(t, own, api.Held{ID: 3, S: at(3, 3, 7)}, api.Held{ID: 6, S: at(1)})
			holds(t, shared, held()...)
		})
	}
	group.Wait()
}
