package chain

import (
	"slices"
	"testing"
)

func TestListIsNewMemory(t *testing.T) { // P3.4, P2
	c := pairs()
	c.Join(pair{1, 3}, pair{2, 2}, pair{3, 1})
	a, b := c.List(), c.List()
	a[0] = pair{8, 8}
	_ = append(a[:1], pair{9, 9})
	_ = append(a, pair{9, 9})
	if !slices.Equal(b, []pair{{1, 3}, {2, 2}, {3, 1}}) {
		t.Errorf("another list saw the change: %v", b)
	}
	holds(t, c, pair{1, 3}, pair{2, 2}, pair{3, 1})
	// Neither does a list see what becomes of the chain.
	c.Join(pair{0, 4}, pair{1, 1})
	c.Cut(pair{1, 1})
	if !slices.Equal(b, []pair{{1, 3}, {2, 2}, {3, 1}}) {
		t.Errorf("a list saw the chain's change: %v", b)
	}
}

func TestListsOfNoneAndOfOneShareNothing(t *testing.T) { // P3.4, P2
	c := pairs()
	_ = append(c.List(), pair{1, 1})
	holds(t, c)
	c.Join(pair{1, 1})
	c.Cut(pair{1, 1})
	_, a := append(c.List(), pair{2, 2}), append(c.List(), pair{3, 3})
	inserts(t, c, pair{4, 4}, true, pair{4, 4})
	if a[0] != (pair{3, 3}) {
		t.Error("lists of none share memory")
	}
}

func TestWhatIsHandedInIsLeftAlone(t *testing.T) { // P2
	l := []pair{{4, 4}, {1, 9}, {2, 2}, {7, 7}, {0, 0}}
	kept := slices.Clone(l)
	c := pairs()
	c.Join(l[:3]...)
	c.Insert(pair{3, 1})
	c.Cut(pair{3, 0})
	if !slices.Equal(l, kept) {
		t.Errorf("what was handed in, or the room behind it, is changed: %v", l)
	}
	l[1], l[2] = pair{5, 5}, pair{6, 6}
	holds(t, c, pair{1, 9}, pair{2, 2})
}

func TestClearAndThenInserts(t *testing.T) { // P3.4
	c := pairs()
	c.Clear()
	holds(t, c)
	c.Join(pair{1, 3}, pair{3, 1})
	c.Clear()
	holds(t, c)
	if c.Covers(pair{9, 9}) || c.Cut(pair{}) != 0 {
		t.Error("something is left behind Clear")
	}
	// The functions stay.
	inserts(t, c, pair{5, 2}, true, pair{5, 2})
	inserts(t, c, pair{2, 5}, true, pair{2, 5}, pair{5, 2})
	inserts(t, c, pair{6, 6}, false, pair{2, 5}, pair{5, 2})
	inserts(t, c, pair{2, 2}, true, pair{2, 2})
}

func TestCopyAndThenChanges(t *testing.T) { // P3.4, P5
	changes := []struct {
		act  func(c *Chain[pair])
		want []pair
	}{
		{func(c *Chain[pair]) { c.Insert(pair{0, 9}) }, []pair{{0, 9}, {1, 3}, {2, 2}, {3, 1}}},
		{func(c *Chain[pair]) { c.Insert(pair{9, 0}) }, []pair{{1, 3}, {2, 2}, {3, 1}, {9, 0}}},
		{func(c *Chain[pair]) { c.Insert(pair{2, 1}) }, []pair{{1, 3}, {2, 1}}},
		{func(c *Chain[pair]) { c.Join(pair{0, 9}, pair{9, 0}) }, []pair{{0, 9}, {1, 3}, {2, 2}, {3, 1}, {9, 0}}},
		{func(c *Chain[pair]) { c.Cut(pair{2, 0}) }, []pair{{1, 3}}},
		{func(c *Chain[pair]) { c.Clear() }, nil},
		{func(c *Chain[pair]) { c.Clear(); c.Insert(pair{7, 7}) }, []pair{{7, 7}}},
	}
	for _, one := range changes {
		for _, other := range changes {
			c := pairs()
			c.Join(pair{1, 3}, pair{2, 2}, pair{3, 1})
			d := c.Copy()
			holds(t, d, pair{1, 3}, pair{2, 2}, pair{3, 1})
			one.act(c)
			holds(t, d, pair{1, 3}, pair{2, 2}, pair{3, 1})
			other.act(d)
			holds(t, c, one.want...)
			holds(t, d, other.want...)
		}
	}
	// A copy of none is of the same functions, too.
	e := pairs().Copy()
	inserts(t, e, pair{2, 2}, true, pair{2, 2})
	inserts(t, e, pair{3, 2}, false, pair{2, 2})
	inserts(t, e, pair{1, 5}, true, pair{1, 5}, pair{2, 2})
}

func TestTwoChainsHaveNothingToDoWithEachOther(t *testing.T) { // P5
	c, d := pairs(), pairs()
	c.Join(pair{1, 1})
	holds(t, d)
	d.Join(pair{2, 2})
	c.Clear()
	holds(t, d, pair{2, 2})
}

func TestNilChain(t *testing.T) { // P1
	var c *Chain[int]
	if c.Insert(1) || c.Covers(1) {
		t.Error("a nil chain takes or covers something")
	}
	if c.Join() != 0 || c.Join(1, 2) != 0 || c.Cut(1) != 0 || c.Len() != 0 {
		t.Error("a nil chain counts something")
	}
	if len(c.List()) != 0 || c.Copy() != nil {
		t.Error("a nil chain has something")
	}
	c.Clear()
}

// panics tells what a call panics with.
func panics(call func()) (with any) {
	defer func() { with = recover() }()
	call()
	return nil
}

func TestAPanicOfAFunctionGoesThrough(t *testing.T) { // P1, P3
	bad := pair{-1, -1}
	guarded := func(f func(x, y pair) bool) func(x, y pair) bool {
		return func(x, y pair) bool {
			if x == bad || y == bad {
				panic("no order")
			}
			return f(x, y)
		}
	}
	c := New(guarded(bothAtMost), guarded(byFirstThenSecond))
	c.Join(pair{1, 3}, pair{2, 2}, pair{3, 1})
	bad = pair{2, 2}
	for name, call := range map[string]func(){
		"Insert": func() { c.Insert(pair{1, 1}) },
		"Join":   func() { c.Join(pair{1, 1}) },
		"Covers": func() { c.Covers(pair{2, 1}) },
		"Cut":    func() { c.Cut(pair{1, 1}) },
	} {
		if with := panics(call); with != "no order" {
			t.Errorf("%s panics with %v", name, with)
		}
		holds(t, c, pair{1, 3}, pair{2, 2}, pair{3, 1})
	}
}

func TestWhatWentOutIsNotKept(t *testing.T) { // the language's rule 8
	atMost := func(a, b *int) bool { return *a <= *b }
	n := func(i int) *int { return &i }
	c := New(atMost, never[*int])
	for _, out := range []func(){
		func() { c.Cut(n(0)) },
		func() { c.Clear() },
		func() { c.Insert(n(0)) },
	} {
		c.Clear()
		c.Join(n(5))
		out()
		for _, x := range c.list[:cap(c.list)] {
			if x != nil && *x == 5 {
				t.Error("an element that went out is kept")
			}
		}
	}
}
