package ledger

import (
	"math"
	"slices"
	"testing"

	"sluice/api"
	"sluice/draws"
)

const (
	most = api.MaxCount
	last = 1<<64 - 1
)

func at(place int, n ...uint64) api.Stamp {
	t := [api.MaxArity]uint64{}
	copy(t[:], n)
	return api.Stamp{At: place, T: api.Time{A: t[0], B: t[1], C: t[2]}}
}

func change(n int64, s api.Stamp) api.Change { return api.Change{S: s, N: n} }

func makes(t *testing.T, l *Ledger, stamps ...api.Stamp) {
	t.Helper()
	for _, s := range stamps {
		if e := l.Make(s); e != api.OK {
			t.Errorf("Make(%v): %d", s, e)
		}
	}
}

func uses(t *testing.T, l *Ledger, stamps ...api.Stamp) {
	t.Helper()
	for _, s := range stamps {
		if e := l.Use(s); e != api.OK {
			t.Errorf("Use(%v): %d", s, e)
		}
	}
}

// sumOf asks for the sum of a stamp.
func sumOf(t *testing.T, l *Ledger, s api.Stamp, want int64) {
	t.Helper()
	if n := l.Get(s); n != want {
		t.Errorf("Get(%v): %d, want %d", s, n, want)
	}
}

// holds asks by all calls that tell something.
func holds(t *testing.T, l *Ledger, want ...api.Change) {
	t.Helper()
	var keys []api.Stamp
	for _, c := range want {
		keys = append(keys, c.S)
		sumOf(t, l, c.S, c.N)
	}
	if n := l.Len(); n != len(want) {
		t.Errorf("Len: %d, want %d", n, len(want))
	}
	if k := l.Keys(); !slices.Equal(k, keys) {
		t.Errorf("Keys: %v, want %v", k, keys)
	}
	if c := l.Changes(); !slices.Equal(c, want) {
		t.Errorf("Changes: %v, want %v", c, want)
	}
}

// brought is a ledger with these sums, of which a test can't come to the greatest by calls.
func brought(t *testing.T, l ...api.Change) *Ledger {
	t.Helper()
	b := New()
	for _, c := range l {
		if e := b.tally.Add(c.S, c.N); e != api.OK {
			t.Fatalf("%v is no sum: %d", c, e)
		}
	}
	return b
}

func TestTheExample(t *testing.T) { // P14.1 to P14.5
	l := New()
	holds(t, l)
	uses(t, l, at(3, 1))
	makes(t, l, at(0, 5), at(3, 0), at(0, 5))
	holds(t, l, change(2, at(0, 5)), change(1, at(3, 0)), change(-1, at(3, 1)))
	makes(t, l, at(3, 1))
	holds(t, l, change(2, at(0, 5)), change(1, at(3, 0)))
	makes(t, l, at(-1, 0))
	sumOf(t, l, at(-1, 0), 1)
	sumOf(t, l, at(9, 9), 0)
	l.Clear()
	holds(t, l)
}

// anyStamps are such as differ in the place alone, in each of a time's numbers alone, and those at the ends, in their order.
func anyStamps() []api.Stamp {
	return []api.Stamp{
		at(math.MinInt), at(math.MinInt, 0, 0, 1), at(math.MinInt, last, last, last), at(math.MinInt + 1),
		at(-1 << 40), at(-2, 9, 9, 9), at(-1), at(-1, 0, 0, last), at(-1, 0, last), at(-1, last),
		at(0), at(0, 0, 0, 1), at(0, 0, 1), at(0, 0, 1, 1), at(0, 1), at(0, 1, 0, 1), at(0, 1, 1),
		at(1), at(1, 2, 3, 3), at(1, 2, 3, 4), at(1, 2, 4, 3), at(1, 3, 3, 3), at(2, 2, 3, 3),
		at(3, 1<<63-1), at(3, 1<<63), at(3, last-1, last), at(3, last, 0, 5), at(4),
		at(1 << 40), at(math.MaxInt-1, last), at(math.MaxInt), at(math.MaxInt, 0, 0, last), at(math.MaxInt, last, last, last-1), at(math.MaxInt, last, last, last),
	}
}

func TestNothingIsWrittenAtFirst(t *testing.T) { // P14.1
	l := New()
	if l == nil {
		t.Fatal("New is nil")
	}
	holds(t, l)
	for _, s := range anyStamps() {
		sumOf(t, l, s, 0)
	}
	holds(t, l) // asking writes nothing
}

func TestSums(t *testing.T) { // P14.2, P14.3, P14.5
	s := at(4, 2, 1)
	for _, c := range []struct {
		acts string
		sum  int64
	}{
		{"", 0}, {"m", 1}, {"u", -1}, {"mm", 2}, {"uu", -2}, {"mu", 0}, {"um", 0}, {"mmu", 1}, {"mum", 1}, {"umm", 1},
		{"uum", -1}, {"umu", -1}, {"muu", -1}, {"mmuu", 0}, {"uumm", 0}, {"mumu", 0}, {"umum", 0}, {"muum", 0}, {"ummu", 0},
		{"mmmmmmm", 7}, {"uuuuuuu", -7}, {"mmmuuumm", 2}, {"uuummmuu", -2}, {"mumumuu", -1},
	} {
		l := New()
		for _, a := range c.acts {
			if a == 'm' {
				makes(t, l, s)
			} else {
				uses(t, l, s)
			}
		}
		if c.sum == 0 {
			holds(t, l)
			sumOf(t, l, s, 0)
		} else {
			holds(t, l, change(c.sum, s))
		}
		if t.Failed() {
			t.Fatalf("%q", c.acts)
		}
	}
}

func TestASumOfZeroAndAgain(t *testing.T) { // P14.3, P14.5
	l := New()
	makes(t, l, at(1), at(2, 1), at(3))
	around := func(want ...api.Change) []api.Change {
		return slices.Concat([]api.Change{change(1, at(1))}, want, []api.Change{change(1, at(3))})
	}
	for range 3 {
		uses(t, l, at(2, 1))
		holds(t, l, around()...)
		sumOf(t, l, at(2, 1), 0)
		uses(t, l, at(2, 1))
		holds(t, l, around(change(-1, at(2, 1)))...)
		makes(t, l, at(2, 1))
		holds(t, l, around()...)
		sumOf(t, l, at(2, 1), 0)
		makes(t, l, at(2, 1))
		holds(t, l, around(change(1, at(2, 1)))...)
	}
}

func TestALongWay(t *testing.T) { // P14.2
	l := New()
	for n := range int64(70000) {
		makes(t, l, at(2, 7))
		uses(t, l, at(2, 7, 1))
		if n%5000 == 0 {
			holds(t, l, change(n+1, at(2, 7)), change(-n-1, at(2, 7, 1)))
		}
	}
	holds(t, l, change(70000, at(2, 7)), change(-70000, at(2, 7, 1)))
}

func TestStampsThatAreNearlyTheSame(t *testing.T) { // P14.2, P14.3
	base := at(5, 5, 5, 5)
	for _, other := range []api.Stamp{at(4, 5, 5, 5), at(6, 5, 5, 5), at(5, 4, 5, 5), at(5, 6, 5, 5), at(5, 5, 4, 5), at(5, 5, 6, 5), at(5, 5, 5, 4), at(5, 5, 5, 6)} {
		first, second := change(1, base), change(-1, other)
		if other.At < base.At || other.T.A < 5 || other.T.B < 5 || other.T.C < 5 {
			first, second = second, first
		}
		l := New()
		makes(t, l, base)
		sumOf(t, l, other, 0)
		uses(t, l, other)
		holds(t, l, first, second)
		uses(t, l, base)
		holds(t, l, change(-1, other))
		sumOf(t, l, base, 0)
	}
}

func TestAnyStampInItsOrder(t *testing.T) { // P14.2, P14.3
	next := draws.Numbers(3)
	for range 20 {
		l := New()
		sums := map[api.Stamp]int64{}
		for _, s := range draws.Mixed(anyStamps(), next) {
			n := next(4) + 1
			if next(2) == 0 {
				makes(t, l, slices.Repeat([]api.Stamp{s}, n)...)
				sums[s] = int64(n)
			} else {
				uses(t, l, slices.Repeat([]api.Stamp{s}, n)...)
				sums[s] = -int64(n)
			}
		}
		var want []api.Change
		for _, s := range anyStamps() {
			want = append(want, change(sums[s], s))
		}
		holds(t, l, want...)
		holds(t, l, want...) // a map's order would be another one each time
	}
}

func TestTheEndsOfTheRange(t *testing.T) { // P14.2, P3
	up, down, beside := at(1, 2), at(1, 3), at(0, 9)
	l := brought(t, change(most-1, up), change(1-most, down), change(5, beside))
	makes(t, l, up)
	uses(t, l, down)
	full := []api.Change{change(5, beside), change(most, up), change(-most, down)}
	holds(t, l, full...)
	for range 3 {
		if e := l.Make(up); e != api.ErrRange {
			t.Errorf("Make at the greatest sum: %d", e)
		}
		if e := l.Use(down); e != api.ErrRange {
			t.Errorf("Use at the least sum: %d", e)
		}
		holds(t, l, full...)
	}
	// Other stamps, and the other way, go on.
	makes(t, l, beside, down)
	uses(t, l, up)
	holds(t, l, change(6, beside), change(most-1, up), change(1-most, down))
	makes(t, l, up)
	uses(t, l, down)
	if l.Make(up) != api.ErrRange || l.Use(down) != api.ErrRange {
		t.Error("the ends have moved")
	}
	holds(t, l, change(6, beside), change(most, up), change(-most, down))
	l.Clear()
	makes(t, l, up)
	uses(t, l, down)
	holds(t, l, change(1, up), change(-1, down))
}

func TestTheEndsAreOfTheSumAlone(t *testing.T) { // P14.2
	for _, s := range anyStamps() {
		full, bare := brought(t, change(most, s)), brought(t, change(-most, s))
		if full.Make(s) != api.ErrRange || bare.Use(s) != api.ErrRange {
			t.Errorf("%v goes beyond the ends", s)
		}
		other := s
		other.T.B ^= 1
		makes(t, full, other)
		uses(t, bare, other)
		uses(t, full, s, s)
		makes(t, bare, s, s)
		sumOf(t, full, s, most-2)
		sumOf(t, bare, s, 2-most)
	}
}

func TestClear(t *testing.T) { // P14.4, P14.1
	l := New()
	l.Clear()
	holds(t, l)
	makes(t, l, at(2), at(2), at(1, 1))
	uses(t, l, at(0, 3))
	for range 2 { // twice over
		l.Clear()
		holds(t, l)
		for _, s := range []api.Stamp{at(2), at(1, 1), at(0, 3), at(7)} {
			sumOf(t, l, s, 0)
		}
	}
	uses(t, l, at(2))
	makes(t, l, at(0, 3), at(-5))
	holds(t, l, change(1, at(-5)), change(1, at(0, 3)), change(-1, at(2)))
	l.Clear()
	holds(t, l)
}
