package tally

import (
	"cmp"
	"slices"
	"strings"
	"testing"

	"sluice/api"
)

func TestKeysAreNewMemory(t *testing.T) { // P4.3, P2
	c := of(t, strings.Compare, has[string]{"a", 1}, has[string]{"b", 2}, has[string]{"c", 3})
	l, m := c.Keys(), c.Keys()
	l[0] = "x"
	_ = append(l[:1], "y")
	_ = append(l, "z")
	if !slices.Equal(m, []string{"a", "b", "c"}) {
		t.Errorf("other keys saw the change: %v", m)
	}
	holds(t, c, has[string]{"a", 1}, has[string]{"b", 2}, has[string]{"c", 3})
	// Neither do they see what becomes of the tally.
	adds(t, c, "b", -2, api.OK)
	adds(t, c, "bb", 1, api.OK)
	c.Clear()
	if !slices.Equal(m, []string{"a", "b", "c"}) {
		t.Errorf("keys saw the tally's change: %v", m)
	}
}

func TestClearAndThenAdds(t *testing.T) { // P4.5
	c := of(t, backwards, has[string]{"a", most}, has[string]{"b", -2})
	c.Clear()
	holds(t, c)
	if c.Get("a") != 0 || c.Get("b") != 0 {
		t.Error("a count is left")
	}
	// The counts begin anew, and the order stays.
	adds(t, c, "a", most, api.OK)
	adds(t, c, "c", 1, api.OK)
	holds(t, c, has[string]{"c", 1}, has[string]{"a", most})
	c.Clear()
	joins(t, c, of(t, strings.Compare, has[string]{"a", 1}, has[string]{"b", 2}), api.OK)
	holds(t, c, has[string]{"b", 2}, has[string]{"a", 1})
}

func TestCopyAndThenChanges(t *testing.T) { // P4.5, P5
	changes := []struct {
		act  func(c *Tally[string])
		want []has[string]
	}{
		{func(c *Tally[string]) { c.Add("a", 4) }, []has[string]{{"c", 3}, {"b", -2}, {"a", 5}}},
		{func(c *Tally[string]) { c.Add("b", 2) }, []has[string]{{"c", 3}, {"a", 1}}},
		{func(c *Tally[string]) { c.Add("d", 1) }, []has[string]{{"d", 1}, {"c", 3}, {"b", -2}, {"a", 1}}},
		{func(c *Tally[string]) { c.Join(c) }, []has[string]{{"c", 6}, {"b", -4}, {"a", 2}}},
		{func(c *Tally[string]) { c.Clear() }, nil},
		{func(c *Tally[string]) { c.Clear(); c.Add("e", 7) }, []has[string]{{"e", 7}}},
	}
	was := []has[string]{{"c", 3}, {"b", -2}, {"a", 1}}
	for _, one := range changes {
		for _, other := range changes {
			c := of(t, backwards, was...)
			d := c.Copy()
			holds(t, d, was...)
			one.act(c)
			holds(t, d, was...)
			other.act(d)
			holds(t, c, one.want...)
			holds(t, d, other.want...)
		}
	}
}

func TestCopyAndTheOneItIsOf(t *testing.T) { // P4.4, P4.5
	c := of(t, strings.Compare, has[string]{"a", 1}, has[string]{"b", -2})
	d := c.Copy()
	joins(t, c, d, api.OK)
	holds(t, c, has[string]{"a", 2}, has[string]{"b", -4})
	holds(t, d, has[string]{"a", 1}, has[string]{"b", -2})
	// A copy of one in which no key is takes keys, in the same order.
	e := New(backwards).Copy()
	adds(t, e, "a", 1, api.OK)
	adds(t, e, "b", 1, api.OK)
	holds(t, e, has[string]{"b", 1}, has[string]{"a", 1})
}

func TestTwoTalliesHaveNothingToDoWithEachOther(t *testing.T) { // P5
	c, d := words(), New(backwards)
	adds(t, c, "a", 1, api.OK)
	holds(t, d)
	adds(t, d, "a", 5, api.OK)
	adds(t, d, "b", 5, api.OK)
	c.Clear()
	holds(t, d, has[string]{"b", 5}, has[string]{"a", 5})
}

func TestKeysAreKeptAsValues(t *testing.T) { // P2
	type box struct{ n int }
	one, other := &box{1}, &box{1}
	c := New(func(a, b *box) int { return cmp.Compare(a.n, b.n) })
	adds(t, c, one, 1, api.OK)
	adds(t, c, other, 2, api.OK)
	one.n = 3
	d := c.Copy()
	holds(t, c, has[*box]{other, 2}, has[*box]{one, 1})
	holds(t, d, has[*box]{other, 2}, has[*box]{one, 1})
}

func TestNilTally(t *testing.T) { // P1
	var c *Tally[string]
	full := of(t, strings.Compare, has[string]{"a", 1})
	adds(t, c, "a", 1, api.OK)
	adds(t, c, "a", most+1, api.OK)
	joins(t, c, full, api.OK)
	joins(t, c, nil, api.OK)
	c.Clear()
	if c.Get("a") != 0 || c.Len() != 0 || len(c.Keys()) != 0 || c.Copy() != nil {
		t.Error("a nil tally has something")
	}
	holds(t, full, has[string]{"a", 1})
}

func TestAKeyThatCannotBeCompared(t *testing.T) { // P1, P3
	// An interface takes what can't be compared, too: no count is of it.
	c := New(func(a, b any) int { return cmp.Compare(a.(string), b.(string)) })
	for range 2 {
		for _, k := range []any{[]int{1}, map[int]int{}, func() {}, [1]any{[]int{}}, struct{ l []int }{}} {
			if e := c.Add(k, 1); e != api.ErrArg {
				t.Errorf("Add of %T = %d, want %d", k, e, api.ErrArg)
			}
			if e := c.Add(k, most+1); e != api.ErrRange {
				t.Errorf("Add of %T, beyond the range = %d, want %d", k, e, api.ErrRange)
			}
			if n := c.Get(k); n != 0 {
				t.Errorf("the count of %T is %d", k, n)
			}
		}
		c.Add("b", 1)
		c.Add("a", 1)
	}
	holds(t, c, has[any]{"a", 2}, has[any]{"b", 2})
}

// panics tells what a call panics with.
func panics(call func()) (with any) {
	defer func() { with = recover() }()
	call()
	return nil
}

func TestAPanicOfTheOrderGoesThrough(t *testing.T) { // P1, P3
	bad := true
	c := New(func(a, b string) int {
		if bad {
			panic("no order")
		}
		return strings.Compare(a, b)
	})
	adds(t, c, "b", 2, api.OK)
	adds(t, c, "a", 1, api.OK)
	if with := panics(func() { c.Keys() }); with != "no order" {
		t.Errorf("Keys panics with %v", with)
	}
	bad = false
	holds(t, c, has[string]{"a", 1}, has[string]{"b", 2})
}

func TestKeysThatWentOutAreNotKept(t *testing.T) { // the language's rule 8
	c := words()
	for _, n := range []int64{1, -1, most} {
		adds(t, c, "a", n, api.OK)
		adds(t, c, "a", -n, api.OK)
	}
	adds(t, c, "b", 0, api.OK)
	adds(t, c, "c", 5, api.OK)
	joins(t, c, of(t, strings.Compare, has[string]{"c", -5}), api.OK)
	if len(c.counts) != 0 {
		t.Errorf("keys with a count of 0 are kept: %v", c.counts)
	}
}
