package stamp

import (
	"slices"
	"testing"

	"sluice/api"
)

const most = 1<<64 - 1

func at(a, b, c uint64) api.Time { return api.Time{A: a, B: b, C: c} }

// grid is all times whose numbers are among these.
func grid(numbers ...uint64) []api.Time {
	var l []api.Time
	for _, a := range numbers {
		for _, b := range numbers {
			for _, c := range numbers {
				l = append(l, at(a, b, c))
			}
		}
	}
	return l
}

// subset is the times of l that the bits pick.
func subset(l []api.Time, bits int) []api.Time {
	var s []api.Time
	for i, t := range l {
		if bits>>i&1 == 1 {
			s = append(s, t)
		}
	}
	return s
}

func atMostEach(a, b api.Time) bool { return a.A <= b.A && a.B <= b.B && a.C <= b.C }

func toldFirst(a, b api.Time) bool {
	switch {
	case a.A != b.A:
		return a.A < b.A
	case a.B != b.B:
		return a.B < b.B
	}
	return a.C < b.C
}

func TestAheadAndCompareOfExamples(t *testing.T) { // P1.1
	for _, c := range []struct {
		a, b          api.Time
		ahead, behind bool
		compare       int
	}{
		{at(1, 2, 0), at(1, 3, 0), true, false, -1},
		{at(1, 3, 0), at(2, 0, 0), false, false, -1},
		{at(1, 3, 0), at(1, 3, 0), true, true, 0},
		{at(0, 5, 0), at(2, 1, 0), false, false, -1},
		{at(0, 0, 0), at(0, 0, 0), true, true, 0},
		{at(0, 0, 0), at(most, most, most), true, false, -1},
		{at(most, most, most-1), at(most, most, most), true, false, -1},
		{at(0, 0, most), at(0, 1, 0), false, false, -1},
		{at(0, most, 0), at(1, 0, 0), false, false, -1},
		{at(1<<63, 0, 0), at(1, 0, 0), false, true, 1},
	} {
		if Ahead(c.a, c.b) != c.ahead || Ahead(c.b, c.a) != c.behind {
			t.Errorf("Ahead of %v and %v: %v, the other way %v", c.a, c.b, Ahead(c.a, c.b), Ahead(c.b, c.a))
		}
		if Compare(c.a, c.b) != c.compare || Compare(c.b, c.a) != -c.compare {
			t.Errorf("Compare of %v and %v: %d, the other way %d", c.a, c.b, Compare(c.a, c.b), Compare(c.b, c.a))
		}
	}
}

func TestAheadAndCompareOfAllPairs(t *testing.T) { // P1.1
	l := grid(0, 1, 2, most)
	for _, a := range l {
		for _, b := range l {
			if Ahead(a, b) != atMostEach(a, b) {
				t.Errorf("Ahead(%v, %v) = %v", a, b, Ahead(a, b))
			}
			want := 0
			if toldFirst(a, b) {
				want = -1
			} else if toldFirst(b, a) {
				want = 1
			}
			if got := Compare(a, b); got != want {
				t.Errorf("Compare(%v, %v) = %d, want %d", a, b, got, want)
			}
			if Ahead(a, b) && a != b && Compare(a, b) != -1 {
				t.Errorf("%v is ahead of %v and not told first", a, b)
			}
		}
	}
}

func TestJoinAndMeetOfExamples(t *testing.T) { // P1.2
	for _, c := range []struct{ a, b, join, meet api.Time }{
		{at(1, 3, 0), at(2, 0, 0), at(2, 3, 0), at(1, 0, 0)},
		{at(0, 0, 7), at(0, most, 8), at(0, most, 8), at(0, 0, 7)},
		{at(4, 5, 6), at(4, 5, 6), at(4, 5, 6), at(4, 5, 6)},
		{at(0, 0, 0), at(most, most, most), at(most, most, most), at(0, 0, 0)},
		{at(9, 9, 9), at(9, 8, 10), at(9, 9, 10), at(9, 8, 9)},
	} {
		if got := Join(c.a, c.b); got != c.join || Join(c.b, c.a) != c.join {
			t.Errorf("Join of %v and %v: %v, want %v", c.a, c.b, got, c.join)
		}
		if got := Meet(c.a, c.b); got != c.meet || Meet(c.b, c.a) != c.meet {
			t.Errorf("Meet of %v and %v: %v, want %v", c.a, c.b, got, c.meet)
		}
	}
}

func TestJoinIsLeastAndMeetIsGreatest(t *testing.T) { // P1.2
	l := grid(0, 1, most)
	for _, a := range l {
		for _, b := range l {
			join, meet := Join(a, b), Meet(a, b)
			for _, u := range l {
				if (atMostEach(a, u) && atMostEach(b, u)) != atMostEach(join, u) {
					t.Errorf("Join(%v, %v) = %v, held against %v", a, b, join, u)
				}
				if (atMostEach(u, a) && atMostEach(u, b)) != atMostEach(u, meet) {
					t.Errorf("Meet(%v, %v) = %v, held against %v", a, b, meet, u)
				}
			}
		}
	}
}

func TestFits(t *testing.T) { // P1.3
	for _, c := range []struct {
		t     api.Time
		arity int
		e     api.Errno
	}{
		{at(1, 0, 0), 1, api.OK},
		{at(most, 0, 0), 1, api.OK},
		{at(1, 1, 0), 1, api.ErrArity},
		{at(1, 0, 1), 1, api.ErrArity},
		{at(0, most, most), 1, api.ErrArity},
		{at(0, 1, 0), 2, api.OK},
		{at(0, 0, 1), 2, api.ErrArity},
		{at(1, 1, most), 2, api.ErrArity},
		{at(1, 2, 3), 3, api.OK},
		{at(0, 0, 0), 1, api.OK},
		{at(0, 0, 0), 2, api.OK},
		{at(0, 0, 0), 3, api.OK},
		{at(0, 0, 0), 0, api.ErrArity},
		{at(0, 0, 0), 4, api.ErrArity},
		{at(1, 2, 3), 4, api.ErrArity},
		{at(0, 0, 0), -1, api.ErrArity},
		{at(0, 0, 0), -1 << 63, api.ErrArity},
		{at(0, 0, 0), 1<<63 - 1, api.ErrArity},
	} {
		if e := Fits(c.t, c.arity); e != c.e {
			t.Errorf("Fits(%v, %d) = %d, want %d", c.t, c.arity, e, c.e)
		}
	}
}

func TestFrontOfExamples(t *testing.T) { // P1.4
	for _, c := range []struct{ l, want []api.Time }{
		{nil, nil},
		{[]api.Time{}, nil},
		{[]api.Time{at(0, 0, 0)}, []api.Time{at(0, 0, 0)}},
		{[]api.Time{at(2, 0, 0), at(1, 3, 0), at(1, 3, 0), at(2, 1, 0)}, []api.Time{at(1, 3, 0), at(2, 0, 0)}},
		{[]api.Time{at(2, 1, 0), at(0, 5, 0), at(2, 3, 0), at(0, 5, 0)}, []api.Time{at(0, 5, 0), at(2, 1, 0)}},
		{[]api.Time{at(0, 0, 0), at(5, 5, 5)}, []api.Time{at(0, 0, 0)}},
		{[]api.Time{at(5, 5, 5), at(5, 5, 5), at(5, 5, 5)}, []api.Time{at(5, 5, 5)}},
		{[]api.Time{at(0, 0, 1), at(0, 1, 0), at(1, 0, 0)}, []api.Time{at(0, 0, 1), at(0, 1, 0), at(1, 0, 0)}},
		{[]api.Time{at(most, 0, 0), at(0, most, 0), at(most, most, 0)}, []api.Time{at(0, most, 0), at(most, 0, 0)}},
	} {
		if got := Front(c.l...); !slices.Equal(got, c.want) {
			t.Errorf("Front(%v) = %v, want %v", c.l, got, c.want)
		}
	}
}

// plainFront is the front by the words of the promise.
func plainFront(l []api.Time) []api.Time {
	var f []api.Time
	for _, v := range l {
		keptOut := slices.ContainsFunc(l, func(u api.Time) bool { return u != v && atMostEach(u, v) })
		if !keptOut && !slices.Contains(f, v) {
			f = append(f, v)
		}
	}
	slices.SortFunc(f, func(a, b api.Time) int {
		if toldFirst(a, b) {
			return -1
		}
		return 1
	})
	return f
}

func TestFrontOfAllSubsets(t *testing.T) { // P1.4
	l := append(grid(0, 1), at(0, 0, 2), at(0, 2, 0), at(2, 0, 0), at(most, 0, 0))
	for bits := range 1 << len(l) {
		s := subset(l, bits)
		want := plainFront(s)
		turned := slices.Clone(s)
		slices.Reverse(turned)
		twice := append(slices.Clone(turned), s...)
		for _, order := range [][]api.Time{s, turned, twice} {
			if got := Front(order...); !slices.Equal(got, want) {
				t.Fatalf("Front(%v) = %v, want %v", order, got, want)
			}
		}
	}
}

func TestFrontOfManyTimesApart(t *testing.T) { // P1.4
	const many = 2000
	var l, want []api.Time
	for i := range uint64(many) {
		want = append(want, at(i, many-i, 0))
		l = append(l, at(many-1-i, i+1, 0), at(many-1-i, i+1, 1))
	}
	if got := Front(l...); !slices.Equal(got, want) {
		t.Errorf("Front of %d times has %d, want %d", len(l), len(got), len(want))
	}
}

func TestFrontLeavesWhatItIsGiven(t *testing.T) { // P2
	room := []api.Time{at(3, 0, 0), at(2, 1, 0), at(9, 9, 9), at(7, 7, 7), at(6, 6, 6)}
	was := slices.Clone(room)
	f := Front(room[:3]...)
	f = append(f, at(1, 1, 1), at(1, 1, 1), at(1, 1, 1))
	for i := range f {
		f[i] = at(8, 8, 8)
	}
	if !slices.Equal(room, was) {
		t.Errorf("behind Front the list and what stands behind it are %v, were %v", room, was)
	}
	if again := Front(room[:3]...); !slices.Equal(again, []api.Time{at(2, 1, 0), at(3, 0, 0)}) {
		t.Errorf("asked again Front is %v", again)
	}
	one := []api.Time{at(1, 0, 0)}
	Front(one...)[0] = at(5, 0, 0)
	if one[0] != at(1, 0, 0) {
		t.Error("Front of one time hands out the list itself")
	}
}

func TestOpenOfExamples(t *testing.T) { // P1.5
	front := []api.Time{at(1, 3, 0), at(2, 0, 0)}
	anyList := []api.Time{at(2, 1, 0), at(2, 0, 0), at(1, 3, 0), at(1, 3, 0), at(4, 4, 0)}
	for _, c := range []struct {
		t    api.Time
		open bool
	}{
		{at(2, 2, 0), true}, {at(1, 2, 9), false}, {at(1, 3, 0), true}, {at(2, 0, 0), true},
		{at(0, 9, 9), false}, {at(0, 0, 0), false}, {at(1, most, 0), true}, {at(most, 0, 0), true}, {at(most, most, most), true},
	} {
		for _, l := range [][]api.Time{front, anyList} {
			if Open(l, c.t) != c.open {
				t.Errorf("Open(%v, %v) = %v", l, c.t, !c.open)
			}
		}
	}
	for _, u := range grid(0, 1, most) {
		if Open(nil, u) || Open([]api.Time{}, u) {
			t.Errorf("%v is open at no times", u)
		}
		if !Open([]api.Time{at(0, 0, 0)}, u) {
			t.Errorf("%v is done at the least time", u)
		}
	}
}

func TestOpenOfAllSubsets(t *testing.T) { // P1.5
	l := grid(0, 1)
	for bits := range 1 << len(l) {
		s := subset(l, bits)
		for _, u := range grid(0, 1, 2) {
			want := slices.ContainsFunc(s, func(v api.Time) bool { return atMostEach(v, u) })
			if Open(s, u) != want {
				t.Fatalf("Open(%v, %v) = %v", s, u, !want)
			}
		}
	}
}

func TestOneFrontJustIfTheSameIsOpen(t *testing.T) { // P1.8
	l := grid(0, 1)
	asked := grid(0, 1, 2)
	var fronts, opens [][]api.Time
	for bits := range 1 << len(l) {
		s := subset(l, bits)
		var open []api.Time
		for _, u := range asked {
			if Open(s, u) {
				open = append(open, u)
			}
		}
		fronts, opens = append(fronts, Front(s...)), append(opens, open)
	}
	for i := range fronts {
		for j := range fronts {
			if slices.Equal(fronts[i], fronts[j]) != slices.Equal(opens[i], opens[j]) {
				t.Errorf("the lists %v and %v: fronts %v and %v", subset(l, i), subset(l, j), fronts[i], fronts[j])
			}
		}
	}
}
