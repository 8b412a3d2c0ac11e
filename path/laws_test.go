package path

import (
	"testing"

	"sluice/api"
)

// chained is p then q, where what comes in may be none already.
func chained(p api.Path, pOK bool, q api.Path, qOK bool) (api.Path, bool) {
	if !pOK || !qOK {
		return api.Path{}, false
	}
	return Then(p, q)
}

func TestThenGoesInAnyGroupingAndEitherWayRound(t *testing.T) { // P2.6
	l := grid(0, 1<<63, most-1)
	for _, p := range l {
		if left, ok := Then(api.Path{}, p); left != p || !ok {
			t.Errorf("empty then %v is %v, %v", p, left, ok)
		}
		for _, q := range l {
			pq, okPQ := Then(p, q)
			if qp, okQP := Then(q, p); qp != pq || okQP != okPQ {
				t.Errorf("Then(%v, %v) = %v, the other way round %v", p, q, pq, qp)
			}
			for _, r := range l {
				qr, okQR := Then(q, r)
				x, okX := chained(pq, okPQ, r, true)
				y, okY := chained(p, true, qr, okQR)
				if x != y || okX != okY {
					t.Errorf("%v then %v then %v: %v, %v, grouped the other way %v, %v", p, q, r, x, okX, y, okY)
				}
			}
		}
	}
}

func TestOnOfTwoIsOneOnTheOther(t *testing.T) { // P2.6
	l := grid(0, 1, most-1)
	for _, p := range l {
		for _, q := range l {
			pq, okPQ := Then(p, q)
			for _, n := range l {
				u := api.Time(n)
				whole, okWhole := api.Time{}, false
				if okPQ {
					whole, okWhole = On(pq, u)
				}
				parts, okParts := On(p, u)
				if okParts {
					parts, okParts = On(q, parts)
				}
				if whole != parts || okWhole != okParts {
					t.Errorf("%v then %v make of %v: %v, %v; one by one %v, %v", p, q, u, whole, okWhole, parts, okParts)
				}
			}
		}
	}
}

func TestOnKeepsTheOrder(t *testing.T) { // P2.6
	l := grid(0, 1, most)
	for _, p := range l {
		for _, q := range l {
			if !Ahead(p, q) {
				continue
			}
			for _, r := range l {
				later, okLater := On(q, api.Time(r))
				sooner, okSooner := On(p, api.Time(r))
				if okLater && (!okSooner || !atMostEach(api.Path(sooner), api.Path(later))) {
					t.Errorf("%v is at or ahead of %v, of %v they make %v and %v", p, q, r, sooner, later)
				}
				later, okLater = On(r, api.Time(q))
				sooner, okSooner = On(r, api.Time(p))
				if okLater && (!okSooner || !atMostEach(api.Path(sooner), api.Path(later))) {
					t.Errorf("%v is at or ahead of %v, %v makes of them %v and %v", p, q, r, sooner, later)
				}
			}
		}
	}
}

func TestOnNeverGoesBack(t *testing.T) { // P2.6
	l := grid(0, 1, most-1, most)
	for _, p := range l {
		for _, n := range l {
			u := api.Time(n)
			made, ok := On(p, u)
			if !ok {
				continue
			}
			if !atMostEach(n, api.Path(made)) {
				t.Errorf("%v makes of %v %v", p, u, made)
			}
			if (made == u) != (p == api.Path{}) {
				t.Errorf("%v makes of %v %v", p, u, made)
			}
		}
	}
}
