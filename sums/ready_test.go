package sums

import (
	"slices"
	"testing"

	"sluice/api"
	"sluice/draws"
)

// filled holds these times, each with one record.
func filled(t *testing.T, l ...api.Time) *Sums {
	t.Helper()
	s := New()
	for _, u := range l {
		adds(t, s, true, u, rec(1, 1))
	}
	return s
}

// cube is all times of these numbers, in the order of telling.
func cube(numbers ...uint64) []api.Time {
	var l []api.Time
	for _, a := range numbers {
		for _, b := range numbers {
			for _, c := range numbers {
				l = append(l, at(a, b, c))
			}
		}
	}
	return l
}

// done is those times of a list, in its order, at or ahead of which none of the other list stands: number by number, by the words.
func done(held, list []api.Time) []api.Time {
	var l []api.Time
	for _, u := range held {
		open := 0
		for _, v := range list {
			if v.A <= u.A && v.B <= u.B && v.C <= u.C {
				open++
			}
		}
		if open == 0 {
			l = append(l, u)
		}
	}
	return l
}

func TestReadyJustBelowAtAndBehind(t *testing.T) { // P22.3
	for _, u := range []api.Time{at(1, 1, 1), at(5, 3, 9), at(half, half, half), at(half-1, half, half+1), at(top-1, top-1, top-1)} {
		s := filled(t, u)
		for _, open := range []api.Time{u, at(u.A-1, u.B, u.C), at(u.A, u.B-1, u.C), at(u.A, u.B, u.C-1), at(u.A-1, u.B-1, u.C-1), at(), at(u.A), at(0, u.B), at(0, 0, u.C)} {
			ready(t, s, []api.Time{open})
			ready(t, s, []api.Time{open, open})
			ready(t, s, []api.Time{at(top, top, top), open, at(u.A+1, 0, 0)})
		}
		for _, behind := range []api.Time{at(u.A+1, u.B, u.C), at(u.A, u.B+1, u.C), at(u.A, u.B, u.C+1), at(u.A+1, u.B+1, u.C+1), at(u.A + 1), at(0, u.B+1), at(0, 0, u.C+1), at(u.A-1, u.B+1, u.C), at(u.A+1, u.B-1, u.C-1), at(top, top, top)} {
			ready(t, s, []api.Time{behind}, u)
			ready(t, s, []api.Time{behind, behind, at(top, top, top)}, u)
		}
		holds(t, s, u)
	}
	least, greatest := filled(t, at()), filled(t, at(top, top, top))
	ready(t, least, []api.Time{at()})
	for _, u := range []api.Time{at(1), at(0, 1), at(0, 0, 1), at(top, top, top)} {
		ready(t, least, []api.Time{u}, at())
		ready(t, greatest, []api.Time{u})
	}
	ready(t, greatest, nil, at(top, top, top))
}

func TestReadyOfAllPairs(t *testing.T) { // P22.3, P22.5
	held := cube(0, 1, 2)
	s := filled(t, draws.Mixed(held, draws.Numbers(1))...)
	for _, u := range cube(0, 1, 2, 3) {
		ready(t, s, []api.Time{u}, done(held, []api.Time{u})...)
		for _, v := range cube(0, 1, 2, 3) {
			// Fronts, lists that are none, one time twice; both orders come up.
			ready(t, s, []api.Time{u, v}, done(held, []api.Time{u, v})...)
		}
	}
	holds(t, s, held...)
}

func TestReadyOfGreatNumbers(t *testing.T) { // P22.3
	held := cube(0, half-1, half, top)
	s := filled(t, draws.Mixed(held, draws.Numbers(2))...)
	for _, u := range cube(0, 1, half-1, half, half+1, top-1, top) {
		ready(t, s, []api.Time{u}, done(held, []api.Time{u})...)
	}
}

func TestReadyOfLongLists(t *testing.T) { // P22.3
	all := cube(0, 1, 2, 3)
	some, none := 0, 0
	for seed := range uint64(400) {
		next := draws.Numbers(seed)
		held := slices.DeleteFunc(slices.Clone(all), func(api.Time) bool { return next(2) == 0 })
		s := filled(t, draws.Mixed(held, next)...)
		for range 20 {
			var list []api.Time
			for range next(12) {
				u := all[next(len(all))]
				if next(3) > 0 { // held or not, more often far from the least
					u = at(u.A+uint64(next(3)), u.B+uint64(next(3)), u.C+uint64(next(3)))
				}
				list = append(list, u)
			}
			want := done(held, list)
			ready(t, s, list, want...)
			slices.Reverse(list)
			ready(t, s, list, want...)
			if len(want) == 0 {
				none++
			} else if len(want) < len(held) {
				some++
			}
		}
		holds(t, s, held...)
	}
	if some < 1000 || none < 100 {
		t.Errorf("some are ready %d times, none %d times", some, none)
	}
}

func TestReadyOfWhatIsHeld(t *testing.T) { // P22.3
	s := filled(t, at(2, 1), at(0, 5), at(0, 9), at(1, 0), at(3, 7))
	ready(t, s, []api.Time{at(2, 1), at(0, 5)}, at(1, 0))
	ready(t, s, []api.Time{at(1, 0)}, at(0, 5), at(0, 9))
	ready(t, s, s.Times())
	tells(t, s, at(1, 0), rec(1, 1)) // what was told is ready no more
	ready(t, s, []api.Time{at(2, 1), at(0, 5)})
	ready(t, s, []api.Time{at(1, 0)}, at(0, 5), at(0, 9))
	adds(t, s, true, at(1, 0), rec(1, 1))
	adds(t, s, true, at(0, 4, 1), rec(1, 1))
	ready(t, s, []api.Time{at(2, 1), at(0, 5)}, at(0, 4, 1), at(1, 0))
}
