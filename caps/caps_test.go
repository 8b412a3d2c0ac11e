package caps

import (
	"math"
	"slices"
	"testing"

	"sluice/api"
)

const last = 1<<64 - 1

func at(place int, n ...uint64) api.Stamp {
	t := [api.MaxArity]uint64{}
	copy(t[:], n)
	return api.Stamp{At: place, T: api.Time{A: t[0], B: t[1], C: t[2]}}
}

func time(n ...uint64) api.Time { return at(0, n...).T }

func mints(t *testing.T, c *Caps, s api.Stamp, id int) {
	t.Helper()
	if n, e := c.Mint(s); n != id || e != api.OK {
		t.Errorf("Mint(%v): %d, %d, want %d", s, n, e, id)
	}
}

func isFull(t *testing.T, c *Caps) {
	t.Helper()
	if n, e := c.Mint(at(3, 1)); n != 0 || e != api.ErrFull {
		t.Errorf("Mint: %d, %d, want ErrFull and no number", n, e)
	}
}

func lowers(t *testing.T, c *Caps, id int, to api.Time, want api.Errno) {
	t.Helper()
	if e := c.Lower(id, to); e != want {
		t.Errorf("Lower(%d, %v): %d, want %d", id, to, e, want)
	}
}

func drops(t *testing.T, c *Caps, ids ...int) {
	t.Helper()
	for _, id := range ids {
		if e := c.Drop(id); e != api.OK {
			t.Errorf("Drop(%d): %d", id, e)
		}
	}
}

// holds asks by all calls that tell something: of what is held, each one and all together.
func holds(t *testing.T, c *Caps, want ...api.Held) {
	t.Helper()
	if all := c.All(); !slices.Equal(all, want) {
		t.Errorf("All: %v, want %v", all, want)
	}
	for _, h := range want {
		if s, e := c.Get(h.ID); s != h.S || e != api.OK {
			t.Errorf("Get(%d): %v, %d, want %v", h.ID, s, e, h.S)
		}
	}
}

// hasNone tells that there are none of these numbers, and that asking for them changes nothing.
func hasNone(t *testing.T, c *Caps, ids ...int) {
	t.Helper()
	was := c.All()
	for _, id := range ids {
		if s, e := c.Get(id); s != (api.Stamp{}) || e != api.ErrCap {
			t.Errorf("Get(%d): %v, %d, want ErrCap and no stamp", id, s, e)
		}
		for _, to := range []api.Time{time(), time(1), time(0, 9), time(last, last, last)} {
			lowers(t, c, id, to, api.ErrCap)
		}
		if e := c.Drop(id); e != api.ErrCap {
			t.Errorf("Drop(%d): %d, want ErrCap", id, e)
		}
	}
	holds(t, c, was...)
}

func TestTheFirstExample(t *testing.T) { // P13.1, P13.2, P13.5, P13.6
	c := New(2)
	mints(t, c, at(3, 1), 1)
	mints(t, c, at(3, 1), 2)
	isFull(t, c)
	drops(t, c, 1)
	if e := c.Drop(1); e != api.ErrCap {
		t.Errorf("Drop(1) again: %d", e)
	}
	mints(t, c, at(3, 1), 3)
	holds(t, c, api.Held{ID: 2, S: at(3, 1)}, api.Held{ID: 3, S: at(3, 1)})
}

func TestTheSecondExample(t *testing.T) { // P13.3, P13.4
	c := New(2)
	mints(t, c, at(3, 1), 1)
	mints(t, c, at(3, 1), 2)
	lowers(t, c, 2, time(0, 5), api.ErrBack)
	lowers(t, c, 2, time(1, 5), api.OK)
	if s, e := c.Get(2); s != at(3, 1, 5) || e != api.OK {
		t.Errorf("Get(2): %v, %d", s, e)
	}
	lowers(t, c, 9, time(1, 5), api.ErrCap)
	holds(t, c, api.Held{ID: 1, S: at(3, 1)}, api.Held{ID: 2, S: at(3, 1, 5)})
}

func TestHowManyAreHeld(t *testing.T) { // P13.1, P13.2
	for _, most := range []int{0, -1, -2, -256, math.MinInt} {
		c := New(most)
		holds(t, c)
		isFull(t, c)
		isFull(t, c)
		hasNone(t, c, 0, 1)
		holds(t, c)
	}
	for _, most := range []int{1, 2, 3, api.MaxCaps} {
		c := New(most)
		holds(t, c)
		for id := 1; id <= most; id++ {
			mints(t, c, at(id, 7), id)
		}
		isFull(t, c)
		drops(t, c, most)
		mints(t, c, at(0), most+1)
		isFull(t, c)
		if len(c.All()) != most {
			t.Errorf("New(%d): %d are held", most, len(c.All()))
		}
	}
	for _, most := range []int{math.MaxInt, 1 << 40} {
		c := New(most)
		holds(t, c)
		for id := 1; id <= 5000; id++ {
			mints(t, c, at(id), id)
		}
		if len(c.All()) != 5000 {
			t.Errorf("New(%d): %d are held, want 5000", most, len(c.All()))
		}
	}
}

func TestOneAtMost(t *testing.T) { // P13.1, P13.2
	c := New(1)
	for id := 1; id <= 50; id++ {
		mints(t, c, at(id, uint64(id)), id)
		isFull(t, c)
		lowers(t, c, id, time(uint64(id), 1), api.OK)
		isFull(t, c)
		holds(t, c, api.Held{ID: id, S: at(id, uint64(id), 1)})
		drops(t, c, id)
		holds(t, c)
	}
}

func TestANumberNeverComesAgain(t *testing.T) { // P13.2, P13.5
	c := New(3)
	mints(t, c, at(0), 1)
	mints(t, c, at(0), 2)
	mints(t, c, at(0), 3)
	drops(t, c, 3) // the greatest
	mints(t, c, at(0), 4)
	drops(t, c, 1, 2, 4) // all
	holds(t, c)
	mints(t, c, at(0), 5)
	drops(t, c, 5)
	mints(t, c, at(1), 6)
	mints(t, c, at(2), 7)
	drops(t, c, 6) // not the greatest
	mints(t, c, at(3), 8)
	hasNone(t, c, 1, 2, 3, 4, 5, 6, 9)
	holds(t, c, api.Held{ID: 7, S: at(2)}, api.Held{ID: 8, S: at(3)})
}

func TestARefusedMintUsesNoNumberUp(t *testing.T) { // P13.2, P3
	c := New(2)
	mints(t, c, at(4, 1), 1)
	mints(t, c, at(5, 1), 2)
	for range 5 {
		isFull(t, c)
	}
	hasNone(t, c, 3, 4, 5, 6, 7)
	drops(t, c, 2)
	mints(t, c, at(6, 1), 3)
	isFull(t, c)
	drops(t, c, 1, 3)
	mints(t, c, at(7, 1), 4)
	holds(t, c, api.Held{ID: 4, S: at(7, 1)})
}

func TestNumbersThatAreNotHeld(t *testing.T) { // P13.3, P13.4, P13.5, P3
	never := []int{0, -1, -2, math.MinInt, math.MinInt + 1, math.MaxInt, math.MaxInt - 1, 1 << 32, 1<<32 + 2, 1 << 31, -1 << 31}
	c := New(8)
	hasNone(t, c, never...)
	hasNone(t, c, 1, 2)
	mints(t, c, at(3, 1), 1)
	mints(t, c, at(4, 2), 2)
	mints(t, c, at(5, 3), 3)
	hasNone(t, c, never...)
	hasNone(t, c, 4, 5, 8)
	drops(t, c, 2)
	hasNone(t, c, never...)
	hasNone(t, c, 2, 4)
	drops(t, c, 3)
	hasNone(t, c, 2, 3, 4)
	drops(t, c, 1)
	hasNone(t, c, 1, 2, 3, 4)
	hasNone(t, c, never...)
	mints(t, c, at(6), 4)
}

func TestLower(t *testing.T) { // P13.4, P3
	for _, a := range []struct {
		from, to api.Time
		want     api.Errno
	}{
		{time(1, 2, 3), time(1, 2, 3), api.OK}, // its own
		{time(), time(), api.OK},
		{time(last, last, last), time(last, last, last), api.OK},
		{time(1, 2, 3), time(2, 2, 3), api.OK}, // later
		{time(1, 2, 3), time(1, 3, 3), api.OK},
		{time(1, 2, 3), time(1, 2, 4), api.OK},
		{time(1, 2, 3), time(9, 9, 9), api.OK},
		{time(), time(last, last, last), api.OK},
		{time(1, 2, 3), time(0, 9, 9), api.ErrBack}, // apart
		{time(1, 2, 3), time(2, 1, 3), api.ErrBack},
		{time(1, 2, 3), time(1, 3, 2), api.ErrBack},
		{time(1, 2, 3), time(9, 9, 2), api.ErrBack},
		{time(0, last), time(last), api.ErrBack},
		{time(1, 2, 3), time(0, 2, 3), api.ErrBack}, // ahead
		{time(1, 2, 3), time(1, 1, 3), api.ErrBack},
		{time(1, 2, 3), time(1, 2, 2), api.ErrBack},
		{time(1, 2, 3), time(), api.ErrBack},
		{time(last, last, last), time(), api.ErrBack},
		{time(last, last, last), time(last, last, last-1), api.ErrBack},
		{time(1 << 63), time(1<<63 - 1), api.ErrBack}, // numbers have no sign
		{time(1<<63 - 1), time(1 << 63), api.OK},
	} {
		for _, place := range []int{-7, 0, 5, math.MaxInt, math.MinInt} {
			c := New(3)
			one, two, three := api.Stamp{At: place, T: a.from}, api.Stamp{At: place, T: a.from}, at(2, 2)
			mints(t, c, one, 1)
			mints(t, c, two, 2)
			mints(t, c, three, 3)
			lowers(t, c, 2, a.to, a.want)
			if a.want == api.OK {
				two.T = a.to
			}
			holds(t, c, api.Held{ID: 1, S: one}, api.Held{ID: 2, S: two}, api.Held{ID: 3, S: three})
			isFull(t, c)
			drops(t, c, 2)
			lowers(t, c, 2, a.to, api.ErrCap) // ahead of ErrBack
			mints(t, c, one, 4)
		}
	}
}

func TestLowerAgainAndAgain(t *testing.T) { // P13.4
	c := New(1)
	mints(t, c, at(9, 0, 4), 1)
	lowers(t, c, 1, time(1, 5), api.OK)
	lowers(t, c, 1, time(0, 4), api.ErrBack) // where it was
	lowers(t, c, 1, time(0, 5), api.ErrBack)
	lowers(t, c, 1, time(1, 5), api.OK)
	lowers(t, c, 1, time(1, 5, 1), api.OK)
	lowers(t, c, 1, time(1, 5), api.ErrBack)
	lowers(t, c, 1, time(last, 5, 1), api.OK)
	holds(t, c, api.Held{ID: 1, S: at(9, last, 5, 1)})
}

func TestAnyStampIsMinted(t *testing.T) { // P13.2, P13.3
	stamps := []api.Stamp{at(0), at(-1), at(math.MinInt, 3), at(math.MaxInt, last, last, last), at(1<<40, 0, last), at(-5, 0, 0, last), at(2, 1, 2, 3), at(2, 1, 2, 3)}
	c := New(len(stamps))
	var want []api.Held
	for i, s := range stamps {
		mints(t, c, s, i+1)
		want = append(want, api.Held{ID: i + 1, S: s})
		holds(t, c, want...)
	}
}

func TestAllByRisingNumbers(t *testing.T) { // P13.6
	c := New(300)
	holds(t, c)
	// Later numbers have lesser stamps: so stamps give another order.
	stampOf := func(id int) api.Stamp { return at(500-id, uint64(900-id)) }
	for id := 1; id <= 300; id++ {
		mints(t, c, stampOf(id), id)
	}
	var want []api.Held
	for id := 1; id <= 300; id++ {
		switch id % 3 {
		case 0:
			drops(t, c, id)
		case 1:
			want = append(want, api.Held{ID: id, S: stampOf(id)})
		case 2:
			lowers(t, c, id, time(last, uint64(id)), api.OK)
			want = append(want, api.Held{ID: id, S: at(500-id, last, uint64(id))})
		}
	}
	for range 5 { // a map's order would be another one each time
		holds(t, c, want...)
	}
	for _, h := range want {
		drops(t, c, h.ID)
	}
	holds(t, c)
	mints(t, c, at(1), 301)
	holds(t, c, api.Held{ID: 301, S: at(1)})
}
