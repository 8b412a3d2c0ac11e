package flow

import (
	"testing"

	"sluice/api"
)

// placed is a time with one number at one of the three places, and another one at both others.
func placed(place int, number, others uint64) api.Time {
	numbers := [api.MaxArity]uint64{others, others, others}
	numbers[place] = number
	return at(numbers[0], numbers[1], numbers[2])
}

// stepped is the path with one number at one of the three places, and 0 at both others.
func stepped(place int, number uint64) api.Path { return api.Path(placed(place, number, 0)) }

func TestALoopThatAddsNothing(t *testing.T) { // P21.2
	for _, bound := range []uint64{0, 1, 64, half, last} {
		f := made(t, loopNode(by(0, 0, 0), bound))
		for _, u := range times() {
			for _, r := range records() {
				becomes(t, f, u, r, u, r)
			}
		}
	}
}

func TestALoopAtItsBound(t *testing.T) { // P21.2: just below, at and above; at the other numbers By is 0, so they may be any
	r := rec(last, half)
	for place := range api.MaxArity {
		for _, others := range []uint64{0, 1, 65, half, last} {
			for _, bound := range []uint64{1, 2, 3, 64, 65, half, last - 1} {
				f := made(t, loopNode(stepped(place, 1), bound))
				if bound > 1 {
					becomes(t, f, placed(place, bound-2, others), r, placed(place, bound-1, others), r)
				}
				becomes(t, f, placed(place, bound-1, others), r, placed(place, bound, others), r)
				goes(t, f, placed(place, bound, others), r)
				goes(t, f, placed(place, bound+1, others), r)
				goes(t, f, placed(place, last, others), r)
				becomes(t, f, placed(place, 0, others), r, placed(place, 1, others), r)
			}
		}
	}
}

func TestBound0(t *testing.T) { // P21.2: where something is added, nothing is at most 0
	for place := range api.MaxArity {
		for _, added := range []uint64{1, 2, half, last} {
			f := made(t, loopNode(stepped(place, added), 0))
			for _, u := range times() {
				goes(t, f, u, rec(1, 2))
			}
		}
	}
	goes(t, made(t, loopNode(by(1, 1, 1), 0)), at(0, 0, 0), rec(1, 2))
}

func TestBound1(t *testing.T) { // P21.2
	for place := range api.MaxArity {
		f := made(t, loopNode(stepped(place, 1), 1))
		for _, others := range []uint64{0, 1, 2, last} {
			becomes(t, f, placed(place, 0, others), rec(1, 2), placed(place, 1, others), rec(1, 2))
			goes(t, f, placed(place, 1, others), rec(1, 2))
			goes(t, f, placed(place, 2, others), rec(1, 2))
		}
		goes(t, made(t, loopNode(stepped(place, 2), 1)), at(0, 0, 0), rec(1, 2))
	}
}

func TestTheGreatestBound(t *testing.T) { // P21.2: it keeps out only what is no time
	r := rec(0, 0)
	for place := range api.MaxArity {
		for _, others := range []uint64{0, half, last} {
			f := made(t, loopNode(stepped(place, 1), last))
			becomes(t, f, placed(place, last-1, others), r, placed(place, last, others), r)
			goes(t, f, placed(place, last, others), r)
			f = made(t, loopNode(stepped(place, half), last))
			becomes(t, f, placed(place, half-1, others), r, placed(place, last, others), r)
			goes(t, f, placed(place, half, others), r)
			goes(t, f, placed(place, last, others), r)
			f = made(t, loopNode(stepped(place, last), last))
			becomes(t, f, placed(place, 0, others), r, placed(place, last, others), r)
			goes(t, f, placed(place, 1, others), r)
			goes(t, f, placed(place, last, others), r)
		}
	}
}

func TestSumsThatAreNoTime(t *testing.T) { // P21.2: whatever the Bound, also where the sum that came round would be within it
	for place := range api.MaxArity {
		for _, bound := range []uint64{0, 1, 2, 64, half, last - 1, last} {
			for _, c := range []struct{ added, number uint64 }{{1, last}, {2, last}, {2, last - 1}, {half, half}, {half + 1, half}, {half, last}, {last, 1}, {last, 2}, {last, last}, {last - 1, 2}, {last - 1, 3}} {
				for _, others := range []uint64{0, 1, last} {
					goes(t, made(t, loopNode(stepped(place, c.added), bound)), placed(place, c.number, others), rec(5, 6))
				}
			}
		}
	}
	for place := range api.MaxArity { // one of three sums is no time
		f := made(t, loopNode(by(1, 1, 1), last))
		goes(t, f, placed(place, last, 0), rec(5, 6))
		goes(t, f, placed(place, last, last-1), rec(5, 6))
		becomes(t, f, placed(place, last-1, 0), rec(5, 6), placed(place, last, 1), rec(5, 6))
	}
}

func TestSeveralNumbersAtOnce(t *testing.T) { // P21.2
	r := rec(3, 4)
	f := made(t, loopNode(by(2, 0, 1), 5))
	becomes(t, f, at(3, 0, 4), r, at(5, 0, 5), r)
	becomes(t, f, at(3, last, 4), r, at(5, last, 5), r)
	becomes(t, f, at(0, 6, 0), r, at(2, 6, 1), r)
	goes(t, f, at(4, 0, 0), r)
	goes(t, f, at(0, 0, 5), r)
	goes(t, f, at(4, 0, 5), r)
	goes(t, f, at(last, 0, 0), r)

	f = made(t, loopNode(by(1, 2, 0), 5))
	becomes(t, f, at(4, 3, last), r, at(5, 5, last), r)
	goes(t, f, at(5, 3, 0), r)
	goes(t, f, at(4, 4, 0), r)

	f = made(t, loopNode(by(0, 1, 2), 5))
	becomes(t, f, at(last, 4, 3), r, at(last, 5, 5), r)
	goes(t, f, at(0, 5, 3), r)
	goes(t, f, at(0, 4, 4), r)

	f = made(t, loopNode(by(1, 2, 3), 5))
	becomes(t, f, at(4, 3, 2), r, at(5, 5, 5), r)
	for _, u := range []api.Time{at(5, 3, 2), at(4, 4, 2), at(4, 3, 3), at(last, 0, 0), at(0, last, 0), at(0, 0, last), at(5, 4, 3)} {
		goes(t, f, u, r)
	}
}

func TestARecordThatGoesRound(t *testing.T) { // P21.2, P21.3: DOC.md's example 5
	f := made(t, loopNode(by(1, 0, 0), 2))
	u, r := at(0, 0, 0), rec(1, 4)
	for want := uint64(1); want <= 2; want++ {
		becomes(t, f, u, r, at(want, 0, 0), r)
		u, r, _ = f.Do(u, r)
	}
	goes(t, f, u, r)
	goes(t, f, at(7, 0, 0), r)
}

func TestALoopLeavesTheRecordAsItIs(t *testing.T) { // P21.2
	f := made(t, loopNode(by(0, 3, 0), 64))
	for _, r := range records() {
		becomes(t, f, at(half, 61, last), r, at(half, 64, last), r)
		goes(t, f, at(half, 62, last), r)
	}
}
