package chain

import (
	"slices"
	"strings"
	"testing"
)

type pair struct{ a, b int }

func bothAtMost(x, y pair) bool { return x.a <= y.a && x.b <= y.b }

func byFirstThenSecond(x, y pair) bool { return x.a < y.a || x.a == y.a && x.b < y.b }

func never[T any](x, y T) bool { return false }

func always[T any](x, y T) bool { return true }

func pairs() *Chain[pair] { return New(bothAtMost, byFirstThenSecond) }

// holds fails the test, if the chain's elements aren't these.
func holds[T comparable](t *testing.T, c *Chain[T], want ...T) {
	t.Helper()
	if got := c.List(); !slices.Equal(got, want) {
		t.Errorf("the list is %v, want %v", got, want)
	}
	if got := c.Len(); got != len(want) {
		t.Errorf("the length is %d, want %d", got, len(want))
	}
}

// inserts fails the test, if Insert of v answers otherwise, or the chain holds others then.
func inserts[T comparable](t *testing.T, c *Chain[T], v T, want bool, list ...T) {
	t.Helper()
	if got := c.Insert(v); got != want {
		t.Errorf("Insert(%v) = %v, want %v", v, got, want)
	}
	holds(t, c, list...)
}

func TestNewHasNoElements(t *testing.T) { // P3.1
	c := pairs()
	if c == nil {
		t.Fatal("New answers nil")
	}
	holds(t, c)
	if c.Covers(pair{}) || c.Cut(pair{}) != 0 || c.Join() != 0 {
		t.Error("a chain without elements covers, cuts or joins something")
	}
	holds(t, c)
}

func TestInsertOfExamples(t *testing.T) { // P3.2
	c := pairs()
	inserts(t, c, pair{3, 5}, true, pair{3, 5})
	inserts(t, c, pair{5, 3}, true, pair{3, 5}, pair{5, 3})
	inserts(t, c, pair{4, 4}, true, pair{3, 5}, pair{4, 4}, pair{5, 3})
	inserts(t, c, pair{4, 5}, false, pair{3, 5}, pair{4, 4}, pair{5, 3})
	inserts(t, c, pair{3, 5}, false, pair{3, 5}, pair{4, 4}, pair{5, 3})
	inserts(t, c, pair{5, 3}, false, pair{3, 5}, pair{4, 4}, pair{5, 3})
	inserts(t, c, pair{3, 3}, true, pair{3, 3})
}

func TestInsertPutsOutAnyOfThem(t *testing.T) { // P3.2
	for _, x := range []struct {
		v    pair
		want []pair
	}{
		{pair{0, 9}, []pair{{0, 9}, {2, 8}, {4, 6}, {6, 4}, {8, 2}}},
		{pair{9, 0}, []pair{{2, 8}, {4, 6}, {6, 4}, {8, 2}, {9, 0}}},
		{pair{5, 5}, []pair{{2, 8}, {4, 6}, {5, 5}, {6, 4}, {8, 2}}},
		{pair{1, 7}, []pair{{1, 7}, {4, 6}, {6, 4}, {8, 2}}},
		{pair{3, 3}, []pair{{2, 8}, {3, 3}, {8, 2}}},
		{pair{5, 1}, []pair{{2, 8}, {4, 6}, {5, 1}}},
		{pair{0, 5}, []pair{{0, 5}, {6, 4}, {8, 2}}},
		{pair{2, 2}, []pair{{2, 2}}},
	} {
		c := pairs()
		c.Join(pair{2, 8}, pair{4, 6}, pair{6, 4}, pair{8, 2})
		inserts(t, c, x.v, true, x.want...)
	}
}

func TestInsertByFunctionsThatAreNoOrders(t *testing.T) { // P3.2
	c := New(never[int], never[int])
	inserts(t, c, 7, true, 7)
	inserts(t, c, 7, true, 7, 7)
	inserts(t, c, 2, true, 7, 7, 2)
	if c.Covers(7) || c.Cut(7) != 0 {
		t.Error("below never: Covers or Cut finds one")
	}
	d := New(never[int], always[int])
	inserts(t, d, 7, true, 7)
	inserts(t, d, 7, true, 7, 7)
	inserts(t, d, 2, true, 2, 7, 7)
	e := New(always[int], always[int])
	inserts(t, e, 7, true, 7)
	inserts(t, e, 2, false, 7)
	if !e.Covers(2) || e.Cut(2) != 1 || e.Covers(2) {
		t.Error("below always: Covers or Cut")
	}
	inserts(t, e, 2, true, 2)
	f := New(always[int], never[int])
	inserts(t, f, 7, true, 7)
	inserts(t, f, 2, false, 7)
}

func TestInsertAsksWhichWayRound(t *testing.T) { // P3.2, P3.3
	// Of next numbers the lower one stands in the way of the greater one, and the greater one puts nothing out.
	next := func(a, b int) bool { return a+1 == b }
	c := New(next, func(a, b int) bool { return a > b })
	inserts(t, c, 4, true, 4)
	inserts(t, c, 5, false, 4)
	inserts(t, c, 4, true, 4, 4)
	inserts(t, c, 9, true, 9, 4, 4)
	inserts(t, c, 6, true, 9, 6, 4, 4)
	inserts(t, c, 3, true, 9, 6, 3)
	if c.Covers(3) || !c.Covers(4) || c.Covers(5) || !c.Covers(7) || c.Covers(8) {
		t.Error("Covers asks the other way round")
	}
	if c.Cut(7) != 0 || c.Cut(9) != 0 || c.Cut(5) != 1 || c.Cut(8) != 1 || c.Cut(3) != 0 {
		t.Error("Cut asks the other way round")
	}
	holds(t, c, 3)
}

func TestInsertComesInByThoseThatStay(t *testing.T) { // P3.2
	// What is put out plays no part in where the new one comes in: first holds of what goes out alone.
	tens := func(a, b int) bool { return a/10 == b/10 && a < b }
	c := New(tens, tens)
	c.Join(25, 15, 26, 35)
	holds(t, c, 25, 15, 35)
	inserts(t, c, 21, true, 15, 35, 21)
	// The first y with first(v, y) is asked for, whatever stands behind it.
	odd := func(a, b int) bool { return b%2 == 1 }
	d := New(never[int], odd)
	d.Join(2, 4, 7, 8, 9)
	holds(t, d, 2, 4, 8, 9, 7)
	inserts(t, d, 6, true, 2, 4, 8, 6, 9, 7)
}

func TestJoin(t *testing.T) { // P3.2
	c := pairs()
	if n := c.Join(pair{9, 9}, pair{5, 1}, pair{1, 5}, pair{5, 1}); n != 3 {
		t.Errorf("Join answers %d, want 3", n)
	}
	holds(t, c, pair{1, 5}, pair{5, 1})
	if n := c.Join(); n != 0 {
		t.Errorf("Join of none answers %d", n)
	}
	if n := c.Join([]pair{}...); n != 0 {
		t.Errorf("Join of none answers %d", n)
	}
	if n := c.Join(pair{1, 5}, pair{1, 5}); n != 0 {
		t.Errorf("Join of what is there answers %d", n)
	}
	if n := c.Join(pair{3, 3}, pair{3, 3}); n != 1 {
		t.Errorf("Join of the same twice answers %d, want 1", n)
	}
	holds(t, c, pair{1, 5}, pair{3, 3}, pair{5, 1})
	if n := c.Join(pair{3, 2}, pair{2, 2}, pair{1, 1}, pair{0, 0}); n != 4 {
		t.Errorf("Join of four of which each puts out all answers %d", n)
	}
	holds(t, c, pair{0, 0})
}

func TestCovers(t *testing.T) { // P3.3
	c := pairs()
	c.Join(pair{3, 5}, pair{4, 4}, pair{5, 3})
	for a := range 9 {
		for b := range 9 {
			want := a >= 3 && b >= 5 || a >= 4 && b >= 4 || a >= 5 && b >= 3
			if got := c.Covers(pair{a, b}); got != want {
				t.Errorf("Covers(%d %d) = %v", a, b, got)
			}
		}
	}
	holds(t, c, pair{3, 5}, pair{4, 4}, pair{5, 3})
	c.Insert(pair{3, 3})
	if !c.Covers(pair{3, 3}) || !c.Covers(pair{9, 3}) || c.Covers(pair{2, 9}) {
		t.Error("Covers of the chapter's examples")
	}
}

func TestCut(t *testing.T) { // P3.3
	for _, x := range []struct {
		v    pair
		n    int
		want []pair
	}{
		{pair{1, 0}, 4, nil},
		{pair{2, 2}, 4, nil},
		{pair{3, 0}, 3, []pair{{2, 8}}},
		{pair{0, 3}, 3, []pair{{8, 2}}},
		{pair{3, 3}, 2, []pair{{2, 8}, {8, 2}}},
		{pair{6, 4}, 1, []pair{{2, 8}, {4, 6}, {8, 2}}},
		{pair{7, 7}, 0, []pair{{2, 8}, {4, 6}, {6, 4}, {8, 2}}},
		{pair{2, 9}, 0, []pair{{2, 8}, {4, 6}, {6, 4}, {8, 2}}},
	} {
		c := pairs()
		c.Join(pair{2, 8}, pair{4, 6}, pair{6, 4}, pair{8, 2})
		if n := c.Cut(x.v); n != x.n {
			t.Errorf("Cut(%v) = %d, want %d", x.v, n, x.n)
		}
		holds(t, c, x.want...)
		if n := c.Cut(x.v); n != 0 {
			t.Errorf("Cut(%v) again = %d", x.v, n)
		}
		holds(t, c, x.want...)
	}
	if n := pairs().Cut(pair{}); n != 0 {
		t.Errorf("Cut of none answers %d", n)
	}
}

func TestElementsOfOtherTypes(t *testing.T) { // P3.1 to P3.4
	words := New(func(a, b string) bool { return strings.HasPrefix(b, a) }, func(a, b string) bool { return a < b })
	inserts(t, words, "water", true, "water")
	inserts(t, words, "waterfall", false, "water")
	inserts(t, words, "wave", true, "water", "wave")
	inserts(t, words, "gate", true, "gate", "water", "wave")
	inserts(t, words, "wa", true, "gate", "wa")
	inserts(t, words, "", true, "")
	// Lists can't be compared: the functions alone say what is what.
	lists := New(func(a, b []int) bool { return len(a) <= len(b) }, func(a, b []int) bool { return len(a) < len(b) })
	if lists.Join([]int{1, 2}, []int{3, 4}, nil) != 2 || lists.Len() != 1 || lists.List()[0] != nil {
		t.Errorf("lists: %v", lists.List())
	}
	// Elements are kept as values: what they point to is the caller's, and a copy shares it.
	x := &pair{1, 2}
	pointers := New(func(a, b *pair) bool { return a == b }, never[*pair])
	pointers.Join(x, &pair{1, 2}, x)
	x.a = 7
	if l := pointers.Copy().List(); len(l) != 2 || l[0] != x || *l[0] != (pair{7, 2}) || *l[1] != (pair{1, 2}) {
		t.Errorf("pointers: %v", l)
	}
}
