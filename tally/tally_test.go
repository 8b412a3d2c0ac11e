package tally

import (
	"cmp"
	"math"
	"slices"
	"strings"
	"testing"

	"sluice/api"
)

const most = api.MaxCount

// has is a key and its count.
type has[K comparable] struct {
	key K
	n   int64
}

func words() *Tally[string] { return New(strings.Compare) }

func backwards(a, b string) int { return strings.Compare(b, a) }

// of is a tally with these counts.
func of(t *testing.T, order func(a, b string) int, l ...has[string]) *Tally[string] {
	t.Helper()
	c := New(order)
	for _, x := range l {
		adds(t, c, x.key, x.n, api.OK)
	}
	return c
}

// holds fails the test, if the keys that are in aren't these in this order, with these counts.
func holds[K comparable](t *testing.T, c *Tally[K], want ...has[K]) {
	t.Helper()
	var got []has[K]
	for _, k := range c.Keys() {
		got = append(got, has[K]{k, c.Get(k)})
	}
	if !slices.Equal(got, want) {
		t.Errorf("the counts are %v, want %v", got, want)
	}
	if n := c.Len(); n != len(want) {
		t.Errorf("the length is %d, want %d", n, len(want))
	}
}

// adds fails the test, if Add answers otherwise.
func adds[K comparable](t *testing.T, c *Tally[K], k K, n int64, want api.Errno) {
	t.Helper()
	if e := c.Add(k, n); e != want {
		t.Errorf("Add(%v, %d) = %d, want %d", k, n, e, want)
	}
}

// joins fails the test, if Join answers otherwise.
func joins[K comparable](t *testing.T, c, o *Tally[K], want api.Errno) {
	t.Helper()
	if e := c.Join(o); e != want {
		t.Errorf("Join = %d, want %d", e, want)
	}
}

func TestNewHasNoKey(t *testing.T) { // P4.1, P4.3
	c := words()
	if c == nil {
		t.Fatal("New answers nil")
	}
	holds(t, c)
	if c.Get("a") != 0 || c.Get("") != 0 {
		t.Error("a key has a count from the beginning")
	}
	c.Clear()
	holds(t, c)
	holds(t, c.Copy())
}

func TestExamples(t *testing.T) { // P4.1 to P4.5
	c := words()
	holds(t, c)
	adds(t, c, "b", 2, api.OK)
	adds(t, c, "a", -1, api.OK)
	adds(t, c, "c", 0, api.OK)
	holds(t, c, has[string]{"a", -1}, has[string]{"b", 2})
	if n := c.Get("c"); n != 0 {
		t.Errorf("c's count is %d", n)
	}
	adds(t, c, "a", 1, api.OK)
	holds(t, c, has[string]{"b", 2})
	adds(t, c, "b", 2147483646, api.ErrRange)
	adds(t, c, "b", 2147483645, api.OK)
	adds(t, c, "b", 1, api.ErrRange)
	adds(t, c, "d", -2147483648, api.ErrRange)
	adds(t, c, "d", 2147483648, api.ErrRange)
	holds(t, c, has[string]{"b", 2147483647})
	u := c.Copy()
	u.Clear()
	holds(t, c, has[string]{"b", 2147483647})
	joins(t, c, c, api.ErrRange)
	joins(t, c, nil, api.ErrArg)
	joins(t, u, c, api.OK)
	holds(t, u, has[string]{"b", 2147483647})
	v := words()
	adds(t, v, "a", 3, api.OK)
	joins(t, v, v, api.OK)
	holds(t, v, has[string]{"a", 6})
}

func TestAddAtTheEndsOfTheRange(t *testing.T) { // P4.2
	for _, x := range []struct {
		had, n int64
		want   api.Errno
	}{
		{0, 0, api.OK},
		{0, most - 1, api.OK},
		{0, most, api.OK},
		{0, most + 1, api.ErrRange},
		{0, -most + 1, api.OK},
		{0, -most, api.OK},
		{0, -most - 1, api.ErrRange},
		{0, math.MaxInt64, api.ErrRange},
		{0, math.MinInt64, api.ErrRange},
		{0, math.MinInt64 + 1, api.ErrRange},
		// The sum is beyond, or just not.
		{1, most - 2, api.OK},
		{1, most - 1, api.OK},
		{1, most, api.ErrRange},
		{-1, -most + 2, api.OK},
		{-1, -most + 1, api.OK},
		{-1, -most, api.ErrRange},
		{most, 0, api.OK},
		{most, 1, api.ErrRange},
		{most - 1, 1, api.OK},
		{most, most, api.ErrRange},
		{-most, 0, api.OK},
		{-most, -1, api.ErrRange},
		{-most + 1, -1, api.OK},
		{-most, -most, api.ErrRange},
		{most, -most, api.OK},
		{-most, most, api.OK},
		{most, -1, api.OK},
		{-most, 1, api.OK},
		// The sum would be in range, the number itself isn't; or the two would wrap round.
		{-1, most + 1, api.ErrRange},
		{1, -most - 1, api.ErrRange},
		{-most, 2 * most, api.ErrRange},
		{most, -2 * most, api.ErrRange},
		{most, math.MaxInt64, api.ErrRange},
		{-most, math.MinInt64, api.ErrRange},
	} {
		c := of(t, strings.Compare, has[string]{"k", x.had}, has[string]{"other", 5})
		adds(t, c, "k", x.n, x.want)
		want := x.had
		if x.want == api.OK {
			want += x.n
		}
		list := []has[string]{{"k", want}, {"other", 5}}
		if want == 0 {
			list = list[1:]
		}
		holds(t, c, list...)
	}
}

func TestACountThatIsZeroIsNotIn(t *testing.T) { // P4.2, P4.3
	c := words()
	adds(t, c, "a", 0, api.OK)
	holds(t, c)
	for _, n := range []int64{1, -1, most, -most} {
		adds(t, c, "a", n, api.OK)
		adds(t, c, "a", 0, api.OK)
		holds(t, c, has[string]{"a", n})
		adds(t, c, "a", -n, api.OK)
		holds(t, c)
	}
	// From above 0 to below it, by way of 0 or not.
	adds(t, c, "a", 2, api.OK)
	adds(t, c, "a", -5, api.OK)
	holds(t, c, has[string]{"a", -3})
	adds(t, c, "a", 3, api.OK)
	adds(t, c, "a", 4, api.OK)
	holds(t, c, has[string]{"a", 4})
}

func TestKeysStandAsTheOrderHasThem(t *testing.T) { // P4.3
	list := []has[string]{{"d", 4}, {"", -7}, {"aa", 1}, {"c", -2}, {"a", 9}, {"b", 1}}
	holds(t, of(t, strings.Compare, list...),
		has[string]{"", -7}, has[string]{"a", 9}, has[string]{"aa", 1}, has[string]{"b", 1}, has[string]{"c", -2}, has[string]{"d", 4})
	holds(t, of(t, backwards, list...),
		has[string]{"d", 4}, has[string]{"c", -2}, has[string]{"b", 1}, has[string]{"aa", 1}, has[string]{"a", 9}, has[string]{"", -7})
	shorterFirst := func(a, b string) int { return cmp.Or(len(a)-len(b), strings.Compare(a, b)) }
	holds(t, of(t, shorterFirst, list...),
		has[string]{"", -7}, has[string]{"a", 9}, has[string]{"b", 1}, has[string]{"c", -2}, has[string]{"d", 4}, has[string]{"aa", 1})
}

func TestKeysOfManyTypes(t *testing.T) { // P4.2 to P4.5
	stamps := New(func(a, b api.Stamp) int {
		return cmp.Or(b.At-a.At, cmp.Compare(a.T.A, b.T.A), cmp.Compare(a.T.B, b.T.B), cmp.Compare(a.T.C, b.T.C))
	})
	late := api.Time{A: math.MaxUint64, C: 1}
	for _, s := range []api.Stamp{{At: 1}, {At: 2, T: late}, {At: 2}, {At: 1, T: api.Time{C: 1}}, {At: 1}} {
		adds(t, stamps, s, 2, api.OK)
	}
	adds(t, stamps, api.Stamp{At: 2, T: api.Time{A: math.MaxUint64, C: 1}}, -3, api.OK)
	holds(t, stamps, has[api.Stamp]{api.Stamp{At: 2}, 2}, has[api.Stamp]{api.Stamp{At: 2, T: late}, -1},
		has[api.Stamp]{api.Stamp{At: 1}, 4}, has[api.Stamp]{api.Stamp{At: 1, T: api.Time{C: 1}}, 2})

	arrays := New(func(a, b [2]int8) int { return cmp.Or(cmp.Compare(a[1], b[1]), cmp.Compare(a[0], b[0])) })
	adds(t, arrays, [2]int8{3, 0}, 1, api.OK)
	adds(t, arrays, [2]int8{-4, 9}, 1, api.OK)
	adds(t, arrays, [2]int8{-4, 0}, -1, api.OK)
	joins(t, arrays, arrays, api.OK)
	holds(t, arrays, has[[2]int8]{[2]int8{-4, 0}, -2}, has[[2]int8]{[2]int8{3, 0}, 2}, has[[2]int8]{[2]int8{-4, 9}, 2})

	bools := New(func(a, b bool) int {
		if a == b {
			return 0
		} else if a {
			return 1
		}
		return -1
	})
	adds(t, bools, true, 1, api.OK)
	adds(t, bools, false, 7, api.OK)
	copied := bools.Copy()
	bools.Clear()
	holds(t, bools)
	holds(t, copied, has[bool]{false, 7}, has[bool]{true, 1})

	numbers := New(cmp.Compare[uint64])
	adds(t, numbers, math.MaxUint64, 1, api.OK)
	adds(t, numbers, 0, 1, api.OK)
	holds(t, numbers, has[uint64]{0, 1}, has[uint64]{math.MaxUint64, 1})

	empty := New(func(a, b struct{}) int { return 0 })
	adds(t, empty, struct{}{}, 3, api.OK)
	adds(t, empty, struct{}{}, -1, api.OK)
	holds(t, empty, has[struct{}]{struct{}{}, 2})
}

func TestJoinAddsEachCount(t *testing.T) { // P4.4
	c := of(t, strings.Compare, has[string]{"a", 1}, has[string]{"b", -4}, has[string]{"c", 5})
	o := of(t, strings.Compare, has[string]{"d", -1}, has[string]{"c", -5}, has[string]{"b", 7})
	joins(t, c, o, api.OK)
	holds(t, c, has[string]{"a", 1}, has[string]{"b", 3}, has[string]{"d", -1})
	holds(t, o, has[string]{"b", 7}, has[string]{"c", -5}, has[string]{"d", -1})
	// Tallies in which no key is, on either side.
	none := words()
	joins(t, c, none, api.OK)
	holds(t, c, has[string]{"a", 1}, has[string]{"b", 3}, has[string]{"d", -1})
	holds(t, none)
	joins(t, none, c, api.OK)
	holds(t, none, has[string]{"a", 1}, has[string]{"b", 3}, has[string]{"d", -1})
	joins(t, words(), words(), api.OK)
}

func TestJoinedTalliesStayApart(t *testing.T) { // P4.4, P5
	c, o := words(), of(t, strings.Compare, has[string]{"a", 1}, has[string]{"b", 2})
	joins(t, c, o, api.OK)
	adds(t, c, "a", 4, api.OK)
	adds(t, c, "x", 1, api.OK)
	holds(t, o, has[string]{"a", 1}, has[string]{"b", 2})
	adds(t, o, "b", -2, api.OK)
	o.Clear()
	holds(t, c, has[string]{"a", 5}, has[string]{"b", 2}, has[string]{"x", 1})
}

func TestJoinOfNil(t *testing.T) { // P4.4, P3
	c := of(t, strings.Compare, has[string]{"a", 1})
	joins(t, c, nil, api.ErrArg)
	holds(t, c, has[string]{"a", 1})
	joins(t, words(), nil, api.ErrArg)
}

func TestJoinOfItself(t *testing.T) { // P4.4
	const half = most / 2
	c := of(t, strings.Compare, has[string]{"a", 3}, has[string]{"b", -1}, has[string]{"c", half}, has[string]{"d", -half})
	joins(t, c, c, api.OK)
	doubled := []has[string]{{"a", 6}, {"b", -2}, {"c", most - 1}, {"d", -most + 1}}
	holds(t, c, doubled...)
	joins(t, c, c, api.ErrRange)
	holds(t, c, doubled...)
	for _, n := range []int64{half + 1, -half - 1} {
		d := of(t, strings.Compare, has[string]{"a", n}, has[string]{"b", 1})
		joins(t, d, d, api.ErrRange)
		holds(t, d, has[string]{"a", n}, has[string]{"b", 1})
	}
	e := words()
	joins(t, e, e, api.OK)
	holds(t, e)
}

func TestJoinOfAnotherOrder(t *testing.T) { // P4.4
	c := of(t, strings.Compare, has[string]{"a", 1}, has[string]{"b", 1})
	o := of(t, backwards, has[string]{"b", 1}, has[string]{"c", 1})
	joins(t, c, o, api.OK)
	holds(t, c, has[string]{"a", 1}, has[string]{"b", 2}, has[string]{"c", 1})
	holds(t, o, has[string]{"c", 1}, has[string]{"b", 1})
	joins(t, o, c, api.OK)
	holds(t, o, has[string]{"c", 2}, has[string]{"b", 3}, has[string]{"a", 1})
	holds(t, c, has[string]{"a", 1}, has[string]{"b", 2}, has[string]{"c", 1})
}

func TestAJoinThatIsRefusedChangesNothing(t *testing.T) { // P4.4, P3
	keys := []string{"a", "b", "c", "d", "e", "f"}
	for _, x := range []struct {
		had, n int64
		want   api.Errno
	}{
		{most, 1, api.ErrRange}, {most - 1, 1, api.OK}, {most, most, api.ErrRange}, {1, most, api.ErrRange},
		{-most, -1, api.ErrRange}, {-most + 1, -1, api.OK}, {-most, -most, api.ErrRange}, {-1, -most, api.ErrRange},
		{most, -most, api.OK}, {-most, most, api.OK},
	} {
		for _, far := range keys {
			c, o := words(), words()
			var was, others, both []has[string]
			for _, k := range keys {
				w := has[string]{k, 2}
				v := has[string]{k, -1}
				if k == far {
					w.n, v.n = x.had, x.n
				}
				adds(t, c, k, w.n, api.OK)
				adds(t, o, k, v.n, api.OK)
				was, others = append(was, w), append(others, v)
				if w.n+v.n != 0 {
					both = append(both, has[string]{k, w.n + v.n})
				}
			}
			joins(t, c, o, x.want)
			if x.want != api.OK {
				both = was
			}
			holds(t, c, both...)
			holds(t, o, others...)
		}
	}
}
