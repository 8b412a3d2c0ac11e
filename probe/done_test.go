package probe

import (
	"slices"
	"testing"

	"sluice/api"
	"sluice/draws"
)

// cube is all times of these numbers, in the order of telling.
func cube(numbers ...uint64) []api.Time {
	var l []api.Time
	for _, a := range numbers {
		for _, b := range numbers {
			for _, c := range numbers {
				l = append(l, at(a, b, c))
			}
		}
	}
	return l
}

// two is two catches of each time, one of them twice, in the order of catches.
func two(times []api.Time) []api.Caught {
	var l []api.Caught
	for i, u := range times {
		key := uint64(i % 3)
		l = append(l, caught(u, key, 9), caught(u, key, 9), caught(u, key+1, 0))
	}
	return l
}

// closed is those of a list, in its order, at or ahead of whose times none of the times stands: number by number, by the words.
func closed(all []api.Caught, times []api.Time) []api.Caught {
	return only(all, func(c api.Caught) bool {
		for _, u := range times {
			if u.A <= c.T.A && u.B <= c.T.B && u.C <= c.T.C {
				return false
			}
		}
		return true
	})
}

func TestDoneJustBelowAtAndBehind(t *testing.T) { // P24.2
	for _, u := range []api.Time{at(1, 1, 1), at(5, 3, 9), at(half, half, half), at(half-1, half, half+1), at(top-1, top-1, top-1)} {
		c := caught(u, 7, 7)
		p := holding(c, c)
		for _, open := range []api.Time{u, at(u.A-1, u.B, u.C), at(u.A, u.B-1, u.C), at(u.A, u.B, u.C-1), at(u.A-1, u.B-1, u.C-1), at(), at(u.A), at(0, u.B), at(0, 0, u.C)} {
			done(t, p, []api.Time{open})
			done(t, p, []api.Time{open, open})
			done(t, p, []api.Time{at(top, top, top), open, at(u.A + 1)})
			done(t, p, []api.Time{open, at(u.A, u.B, u.C+1)})
		}
		for _, behind := range []api.Time{at(u.A+1, u.B, u.C), at(u.A, u.B+1, u.C), at(u.A, u.B, u.C+1), at(u.A + 1), at(0, u.B+1), at(0, 0, u.C+1), at(u.A-1, u.B+1, u.C), at(u.A+1, u.B-1, u.C-1), at(top, top, top)} {
			done(t, p, []api.Time{behind}, c, c)
			done(t, p, []api.Time{behind, behind, at(top, top, top)}, c, c)
		}
	}
	least, greatest := caught(at(), 1, 1), caught(at(top, top, top), 1, 1)
	p := holding(greatest, least)
	done(t, p, []api.Time{at()})
	for _, u := range []api.Time{at(1), at(0, 1), at(0, 0, 1), at(half), at(top, top, top)} {
		done(t, p, []api.Time{u}, least)
	}
	done(t, p, nil, least, greatest)
}

func TestDoneOfAllPairs(t *testing.T) { // P24.2
	all := two(cube(0, 1, 2))
	p := holding(draws.Mixed(all, draws.Numbers(1))...)
	for _, u := range cube(0, 1, 2, 3) {
		done(t, p, []api.Time{u}, closed(all, []api.Time{u})...)
		for _, v := range cube(0, 1, 2, 3) {
			// Fronts, lists that are none, one time twice; both orders come up.
			done(t, p, []api.Time{u, v}, closed(all, []api.Time{u, v})...)
		}
	}
	hasJust(t, p, all...)
}

func TestDoneOfGreatNumbers(t *testing.T) { // P24.2
	all := two(cube(0, half-1, half, top))
	p := holding(draws.Mixed(all, draws.Numbers(2))...)
	for _, u := range cube(0, 1, half-1, half, half+1, top-1, top) {
		done(t, p, []api.Time{u}, closed(all, []api.Time{u})...)
	}
}

func TestDoneOfLongLists(t *testing.T) { // P24.2
	times := cube(0, 1, 2, 3)
	some, none := 0, 0
	for seed := range uint64(250) {
		next := draws.Numbers(seed)
		all := slices.DeleteFunc(two(times), func(api.Caught) bool { return next(2) == 0 })
		p := holding(draws.Mixed(all, next)...)
		for range 20 {
			var list []api.Time
			for range next(12) {
				u := times[next(len(times))]
				if next(3) > 0 { // more often far from the least
					u = at(u.A+uint64(next(3)), u.B+uint64(next(3)), u.C+uint64(next(3)))
				}
				list = append(list, u)
			}
			was := slices.Clone(list)
			want := closed(all, list)
			done(t, p, list, want...)
			if !slices.Equal(list, was) {
				t.Errorf("Done has changed its list: %v, want %v", list, was)
			}
			done(t, p, draws.Mixed(slices.Concat(list, list), next), want...)
			if len(want) == 0 {
				none++
			} else if len(want) < len(all) {
				some++
			}
		}
		is(t, "All", p.All(), all...)
	}
	if some < 1000 || none < 100 {
		t.Errorf("some are done %d times, none %d times", some, none)
	}
}

func TestUptoATimeButNotDoneThere(t *testing.T) { // P24.2: that is just what came at the time itself
	all := two(cube(0, 1, 2))
	p := holding(draws.Mixed(all, draws.Numbers(5))...)
	for _, u := range cube(0, 1, 2, 3) {
		same := only(all, func(c api.Caught) bool { return c.T == u })
		told := p.Done([]api.Time{u})
		left := only(p.Upto(u), func(c api.Caught) bool { return !slices.Contains(told, c) })
		is(t, "up to a time but not done there", left, same...)
	}
}
