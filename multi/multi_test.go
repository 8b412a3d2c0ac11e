package multi

import (
	"math"
	"slices"
	"testing"

	"sluice/api"
)

const most = api.MaxCount

// at is a time of two numbers.
func at(a, b uint64) api.Time { return api.Time{A: a, B: b} }

// by is a delta of a time of two numbers.
func by(a, b uint64, n int64) api.Delta { return api.Delta{T: at(a, b), N: n} }

// of is one with these counts.
func of(t *testing.T, l ...api.Delta) *Multi {
	t.Helper()
	m := New()
	if _, e := m.Apply(l...); e != api.OK {
		t.Fatalf("Apply(%v) = %d", l, e)
	}
	return m
}

// tells fails the test, if Apply of the list doesn't answer these deltas.
func tells(t *testing.T, m *Multi, l []api.Delta, want ...api.Delta) {
	t.Helper()
	if got, e := m.Apply(l...); e != api.OK || !slices.Equal(got, want) {
		t.Errorf("Apply(%v) = %v, %d, want %v", l, got, e, want)
	}
}

// refuses fails the test, if Apply of the list isn't ErrRange, or changes something.
func refuses(t *testing.T, m *Multi, l ...api.Delta) {
	t.Helper()
	had, front := countsOf(m), m.Front()
	if got, e := m.Apply(l...); e != api.ErrRange || len(got) != 0 {
		t.Errorf("Apply(%v) = %v, %d, want ErrRange", l, got, e)
	}
	holds(t, m, had...)
	fronts(t, m, front...)
}

// countsOf is the times whose counts aren't 0, with them.
func countsOf(m *Multi) []api.Delta {
	var l []api.Delta
	for _, x := range m.Times() {
		l = append(l, api.Delta{T: x, N: m.Count(x)})
	}
	return l
}

// holds fails the test, if the counts that aren't 0 are not these, in the order of telling.
func holds(t *testing.T, m *Multi, want ...api.Delta) {
	t.Helper()
	if got := countsOf(m); !slices.Equal(got, want) {
		t.Errorf("the counts are %v, want %v", got, want)
	}
	if n := m.Len(); n != len(want) {
		t.Errorf("the length is %d, want %d", n, len(want))
	}
}

// fronts fails the test, if these aren't the front's times.
func fronts(t *testing.T, m *Multi, want ...api.Time) {
	t.Helper()
	if got := m.Front(); !slices.Equal(got, want) {
		t.Errorf("the front is %v, want %v", got, want)
	}
}

// opens fails the test, if a time is not as open as that.
func opens(t *testing.T, m *Multi, want bool, times ...api.Time) {
	t.Helper()
	for _, x := range times {
		if m.Open(x) != want {
			t.Errorf("Open(%v) is %v", x, !want)
		}
	}
}

func TestNewHasNoCounts(t *testing.T) { // P5.1
	m := New()
	if m == nil {
		t.Fatal("New answers nil")
	}
	holds(t, m)
	fronts(t, m)
	if m.Count(at(0, 0)) != 0 || m.Count(at(3, 1)) != 0 {
		t.Error("a time has a count from the beginning")
	}
	opens(t, m, false, at(0, 0), at(math.MaxUint64, math.MaxUint64))
}

func TestExamples(t *testing.T) { // P5.1 to P5.4
	m := New()
	tells(t, m, []api.Delta{by(0, 0, 2)}, by(0, 0, 1))
	tells(t, m, []api.Delta{by(0, 0, -1)})
	tells(t, m, []api.Delta{by(1, 0, 1), by(0, 1, 1)})
	fronts(t, m, at(0, 0))
	tells(t, m, []api.Delta{by(0, 0, -1)}, by(0, 0, -1), by(0, 1, 1), by(1, 0, 1))
	fronts(t, m, at(0, 1), at(1, 0))
	tells(t, m, []api.Delta{by(1, 0, -1), by(1, 0, 1)})
	tells(t, m, []api.Delta{by(5, 5, -1)})
	holds(t, m, by(0, 1, 1), by(1, 0, 1), by(5, 5, -1))
	opens(t, m, false, at(0, 0))
	opens(t, m, true, at(3, 1))
	tells(t, m, []api.Delta{by(5, 5, 1), by(0, 1, -1), by(1, 0, -1)}, by(0, 1, -1), by(1, 0, -1))
	fronts(t, m)
	holds(t, m)
	opens(t, m, false, at(0, 0), at(3, 1), at(5, 5), at(math.MaxUint64, math.MaxUint64))
}

func TestExampleOfTheRange(t *testing.T) { // P5.2
	m := New()
	tells(t, m, []api.Delta{by(0, 0, most)}, by(0, 0, 1))
	tells(t, m, []api.Delta{by(0, 0, 1), by(0, 0, -1)})
	refuses(t, m, by(0, 0, 1))
	refuses(t, m, by(7, 7, most+1))
	refuses(t, m, by(7, 7, most), by(7, 7, most))
	tells(t, m, []api.Delta{by(7, 7, most), by(7, 7, most), by(7, 7, -most)})
	holds(t, m, by(0, 0, most), by(7, 7, most))
}

func TestApplyOfNoDeltas(t *testing.T) { // P5.2
	tells(t, New(), nil)
	tells(t, New(), []api.Delta{})
	m := of(t, by(2, 1, 1), by(1, 2, 3), by(4, 4, -1))
	tells(t, m, nil)
	tells(t, m, []api.Delta{})
	holds(t, m, by(1, 2, 3), by(2, 1, 1), by(4, 4, -1))
	fronts(t, m, at(1, 2), at(2, 1))
}

func TestADeltaOfZero(t *testing.T) { // P5.2, P5.4
	m := New()
	tells(t, m, []api.Delta{by(3, 3, 0)})
	holds(t, m)
	fronts(t, m)
	m = of(t, by(1, 1, 2), by(2, 0, -2))
	tells(t, m, []api.Delta{by(0, 0, 0), by(1, 1, 0), by(2, 0, 0)})
	holds(t, m, by(1, 1, 2), by(2, 0, -2))
	fronts(t, m, at(1, 1))
}

func TestCountsBelowZeroAreNotInTheFront(t *testing.T) { // P5.2 to P5.4
	m := New()
	tells(t, m, []api.Delta{by(0, 0, -2), by(1, 0, 1)}, by(1, 0, 1))
	fronts(t, m, at(1, 0))
	opens(t, m, false, at(0, 0), at(0, 9))
	// Up to 0 it is still not there; above it, it is, and hides the other one.
	tells(t, m, []api.Delta{by(0, 0, 2)})
	holds(t, m, by(1, 0, 1))
	tells(t, m, []api.Delta{by(0, 0, 1)}, by(0, 0, 1), by(1, 0, -1))
	// From above 0 to below it at once.
	tells(t, m, []api.Delta{by(0, 0, -3)}, by(0, 0, -1), by(1, 0, 1))
	holds(t, m, by(0, 0, -2), by(1, 0, 1))
	// From below 0 to above it at once.
	tells(t, m, []api.Delta{by(0, 0, 3)}, by(0, 0, 1), by(1, 0, -1))
	holds(t, m, by(0, 0, 1), by(1, 0, 1))
}

func TestACountThatComesBackToZero(t *testing.T) { // P5.2, P5.4
	for _, n := range []int64{1, -1, 7, most, -most} {
		m := of(t, by(2, 2, n), by(9, 9, 5))
		if n > 0 {
			tells(t, m, []api.Delta{by(2, 2, -n)}, by(2, 2, -1), by(9, 9, 1))
		} else {
			tells(t, m, []api.Delta{by(2, 2, -n)})
		}
		holds(t, m, by(9, 9, 5))
		fronts(t, m, at(9, 9))
		if m.Count(at(2, 2)) != 0 {
			t.Errorf("the count is %d", m.Count(at(2, 2)))
		}
	}
}

func TestTheEndsOfTheRange(t *testing.T) { // P5.2
	for _, x := range []struct {
		had int64
		l   []int64
		ok  bool
	}{
		// One N by itself.
		{0, []int64{most - 1}, true},
		{0, []int64{most}, true},
		{0, []int64{most + 1}, false},
		{0, []int64{-most + 1}, true},
		{0, []int64{-most}, true},
		{0, []int64{-most - 1}, false},
		{0, []int64{math.MaxInt64}, false},
		{0, []int64{math.MinInt64}, false},
		{0, []int64{math.MinInt64 + 1}, false},
		// One N beyond the range, though the sum isn't, and wherever it stands.
		{0, []int64{most + 1, -1}, false},
		{0, []int64{-1, most + 1}, false},
		{0, []int64{-most - 1, 1}, false},
		{0, []int64{1, -most - 1}, false},
		{-1, []int64{most + 1}, false},
		{1, []int64{-most - 1}, false},
		{0, []int64{math.MaxInt64, math.MinInt64, 1}, false},
		{0, []int64{math.MinInt64, math.MinInt64}, false},
		{0, []int64{most + 1, -most - 1}, false},
		{-most, []int64{2 * most}, false},
		// The sum behind the whole list.
		{1, []int64{most - 2}, true},
		{1, []int64{most - 1}, true},
		{1, []int64{most}, false},
		{-1, []int64{-most + 2}, true},
		{-1, []int64{-most + 1}, true},
		{-1, []int64{-most}, false},
		{most, []int64{0}, true},
		{most, []int64{1}, false},
		{-most, []int64{0}, true},
		{-most, []int64{-1}, false},
		{0, []int64{most, 1}, false},
		{0, []int64{most, most}, false},
		{0, []int64{-most, -most}, false},
		{0, []int64{most, -1, 1, 1}, false},
		// Beyond the range on the way, and not behind it.
		{most, []int64{1, -1}, true},
		{most, []int64{1, -2}, true},
		{-most, []int64{-1, 1}, true},
		{-most, []int64{-1, 2}, true},
		{0, []int64{most, most, -most}, true},
		{0, []int64{-most, -most, most}, true},
		{0, []int64{most, most, most, -most, -most, -most}, true},
		{most, []int64{most, most, -most, -most}, true},
		// From one end to the other: farther than one N may go.
		{-most, []int64{most, most}, true},
		{most, []int64{-most, -most}, true},
		{-most, []int64{most, most, 1}, false},
		{most, []int64{-most, -1, -most}, false},
	} {
		m := of(t, by(4, 4, x.had), by(5, 5, -3), by(6, 6, 2))
		var l []api.Delta
		want := x.had
		for _, n := range x.l {
			l = append(l, by(4, 4, n))
			want += n
		}
		if !x.ok {
			refuses(t, m, l...)
			continue
		}
		if _, e := m.Apply(l...); e != api.OK {
			t.Errorf("%d and then %v: %d", x.had, x.l, e)
		}
		if n := m.Count(at(4, 4)); n != want {
			t.Errorf("%d and then %v: the count is %d, want %d", x.had, x.l, n, want)
		}
		if want > 0 {
			fronts(t, m, at(4, 4))
		} else {
			fronts(t, m, at(6, 6))
		}
	}
}

func TestAListThatIsRefusedChangesNothing(t *testing.T) { // P5.2, P3
	// Whatever else stands in the list, and wherever that stands which is beyond the range.
	fine := []api.Delta{by(0, 0, 1), by(1, 2, -1), by(2, 1, 4), by(3, 3, -7), by(9, 9, 1), by(4, 4, 7)}
	for _, bad := range [][]api.Delta{
		{by(8, 8, most+1)},
		{by(8, 8, -most-1)},
		{by(8, 8, most), by(8, 8, 1)},
		{by(7, 7, 1)},
		{by(2, 1, most), by(2, 1, -most), by(2, 1, -most), by(2, 1, -most)},
	} {
		for i := range len(fine) + 1 {
			for j := range len(fine) + 1 {
				m := of(t, by(1, 2, 1), by(2, 1, 1), by(3, 3, 2), by(7, 7, most))
				l := slices.Insert(slices.Clone(fine), i, bad[0])
				l = slices.Insert(l, j, bad[1:]...)
				refuses(t, m, l...)
				// It goes on as if it had never been asked.
				tells(t, m, []api.Delta{by(1, 2, -1)}, by(1, 2, -1))
				holds(t, m, by(2, 1, 1), by(3, 3, 2), by(7, 7, most))
			}
		}
	}
}

func TestATimeThatLeavesTheFrontAndComesBack(t *testing.T) { // P5.2
	base := []api.Delta{by(1, 1, 1), by(2, 2, 1), by(0, 5, 2)}
	for _, l := range [][]api.Delta{
		{by(1, 1, -1), by(1, 1, 1)},
		{by(1, 1, 1), by(1, 1, -1)},
		{by(1, 1, -5), by(2, 2, 1), by(1, 1, 4), by(1, 1, 3)},
		{by(1, 1, -1), by(0, 5, -2), by(0, 5, 1), by(1, 1, 1)},
		// One that comes in ahead of it, and goes again.
		{by(0, 0, 1), by(0, 0, -1)},
		{by(1, 0, 3), by(0, 1, 1), by(1, 0, -3), by(0, 1, -1)},
		{by(0, 0, -1), by(0, 0, 1)},
	} {
		tells(t, of(t, base...), l)
	}
	// In two calls each is told.
	m := of(t, base...)
	tells(t, m, []api.Delta{by(1, 1, -1)}, by(1, 1, -1), by(2, 2, 1))
	tells(t, m, []api.Delta{by(1, 1, 1)}, by(1, 1, 1), by(2, 2, -1))
}

func TestWhatIsToldOfTheFront(t *testing.T) { // P5.2, P5.3
	base := []api.Delta{by(0, 6, 1), by(3, 3, 2), by(6, 0, 1), by(4, 4, 1), by(7, 7, 1), by(1, 8, -1)}
	for _, x := range []struct {
		l, told []api.Delta
		front   []api.Time
	}{
		// One comes in apart from all, ahead of all, between, and behind one.
		{[]api.Delta{by(1, 5, 1)}, []api.Delta{by(1, 5, 1)}, []api.Time{at(0, 6), at(1, 5), at(3, 3), at(6, 0)}},
		{[]api.Delta{by(0, 0, 1)}, []api.Delta{by(0, 0, 1), by(0, 6, -1), by(3, 3, -1), by(6, 0, -1)}, []api.Time{at(0, 0)}},
		{[]api.Delta{by(3, 2, 1)}, []api.Delta{by(3, 2, 1), by(3, 3, -1)}, []api.Time{at(0, 6), at(3, 2), at(6, 0)}},
		{[]api.Delta{by(6, 1, 1)}, nil, []api.Time{at(0, 6), at(3, 3), at(6, 0)}},
		// One goes, and what it hid comes in; or its count only falls.
		{[]api.Delta{by(3, 3, -2)}, []api.Delta{by(3, 3, -1), by(4, 4, 1)}, []api.Time{at(0, 6), at(4, 4), at(6, 0)}},
		{[]api.Delta{by(3, 3, -1)}, nil, []api.Time{at(0, 6), at(3, 3), at(6, 0)}},
		{[]api.Delta{by(0, 6, -1)}, []api.Delta{by(0, 6, -1)}, []api.Time{at(3, 3), at(6, 0)}},
		// One that is hidden goes or changes.
		{[]api.Delta{by(4, 4, -1), by(7, 7, 5)}, nil, []api.Time{at(0, 6), at(3, 3), at(6, 0)}},
		// One goes and another comes at once, which hides what would have come in.
		{[]api.Delta{by(3, 3, -2), by(4, 3, 1)}, []api.Delta{by(3, 3, -1), by(4, 3, 1)}, []api.Time{at(0, 6), at(4, 3), at(6, 0)}},
		{[]api.Delta{by(3, 3, -3), by(1, 1, 1)}, []api.Delta{by(1, 1, 1), by(3, 3, -1)}, []api.Time{at(0, 6), at(1, 1), at(6, 0)}},
		// All go.
		{[]api.Delta{by(3, 3, -2), by(6, 0, -1), by(7, 7, -1), by(0, 6, -9), by(4, 4, -1)}, []api.Delta{by(0, 6, -1), by(3, 3, -1), by(6, 0, -1)}, nil},
		// One below 0 comes above it.
		{[]api.Delta{by(1, 8, 1), by(1, 8, 1)}, nil, []api.Time{at(0, 6), at(3, 3), at(6, 0)}},
		{[]api.Delta{by(0, 6, -1), by(1, 8, 2)}, []api.Delta{by(0, 6, -1), by(1, 8, 1)}, []api.Time{at(1, 8), at(3, 3), at(6, 0)}},
	} {
		m := of(t, base...)
		fronts(t, m, at(0, 6), at(3, 3), at(6, 0))
		tells(t, m, x.l, x.told...)
		fronts(t, m, x.front...)
	}
}

func TestOpen(t *testing.T) { // P5.3
	m := of(t, by(0, 5, 1), by(2, 1, 2), by(2, 3, 1), by(1, 0, -1))
	opens(t, m, true, at(1, 9), at(2, 1), at(3, 7), at(0, 5), at(math.MaxUint64, math.MaxUint64))
	opens(t, m, false, at(1, 4), at(0, 0), at(5, 0), at(1, 0), at(0, 4), at(2, 0))
	opens(t, m, true, api.Time{A: 2, B: 1, C: math.MaxUint64})
}

func TestTimesDifferInTheThirdNumber(t *testing.T) { // P5.6
	c := func(n uint64) api.Time { return api.Time{A: 1, B: 1, C: n} }
	m := New()
	tells(t, m, []api.Delta{{T: c(4), N: 1}, {T: c(7), N: -2}}, api.Delta{T: c(4), N: 1})
	tells(t, m, []api.Delta{{T: c(2), N: 1}}, api.Delta{T: c(2), N: 1}, api.Delta{T: c(4), N: -1})
	holds(t, m, api.Delta{T: c(2), N: 1}, api.Delta{T: c(4), N: 1}, api.Delta{T: c(7), N: -2})
	opens(t, m, false, c(0), c(1), at(9, 9))
	opens(t, m, true, c(2), c(3), c(math.MaxUint64))
	// By C alone they are apart from what is less in another number.
	tells(t, m, []api.Delta{by(1, 2, 1), {T: api.Time{B: 1, C: 3}, N: 1}},
		api.Delta{T: api.Time{B: 1, C: 3}, N: 1}, by(1, 2, 1))
	fronts(t, m, api.Time{B: 1, C: 3}, c(2), at(1, 2))
	tells(t, m, []api.Delta{{T: c(2), N: -1}}, api.Delta{T: c(2), N: -1})
	tells(t, m, []api.Delta{{T: api.Time{B: 1, C: 3}, N: -1}}, api.Delta{T: api.Time{B: 1, C: 3}, N: -1}, api.Delta{T: c(4), N: 1})
}

func TestTheGreatestTimes(t *testing.T) { // P5.3, P5.6
	last := api.Time{A: math.MaxUint64, B: math.MaxUint64, C: math.MaxUint64}
	m := of(t, api.Delta{T: last, N: 1})
	fronts(t, m, last)
	opens(t, m, true, last)
	opens(t, m, false, api.Time{A: math.MaxUint64, B: math.MaxUint64, C: math.MaxUint64 - 1}, at(0, 0))
	tells(t, m, []api.Delta{{N: 1}}, api.Delta{N: 1}, api.Delta{T: last, N: -1})
	opens(t, m, true, at(0, 0), last)
}
