package path

import (
	"math/big"
	"slices"
	"testing"

	"sluice/api"
)

const most = 1<<64 - 1

func by(a, b, c uint64) api.Path { return api.Path{A: a, B: b, C: c} }

// grid is all paths whose numbers are among these.
func grid(numbers ...uint64) []api.Path {
	var l []api.Path
	for _, a := range numbers {
		for _, b := range numbers {
			for _, c := range numbers {
				l = append(l, by(a, b, c))
			}
		}
	}
	return l
}

// plainSums adds number by number, without an end to the numbers; false: one is above the greatest.
func plainSums(p, q api.Path) (api.Path, bool) {
	sum := func(x, y uint64) *big.Int {
		return new(big.Int).Add(new(big.Int).SetUint64(x), new(big.Int).SetUint64(y))
	}
	a, b, c := sum(p.A, q.A), sum(p.B, q.B), sum(p.C, q.C)
	if !a.IsUint64() || !b.IsUint64() || !c.IsUint64() {
		return api.Path{}, false
	}
	return by(a.Uint64(), b.Uint64(), c.Uint64()), true
}

func atMostEach(p, q api.Path) bool { return p.A <= q.A && p.B <= q.B && p.C <= q.C }

// plainCompare is the order of telling by its words.
func plainCompare(p, q api.Path) int {
	return slices.Compare([]uint64{p.A, p.B, p.C}, []uint64{q.A, q.B, q.C})
}

func TestSumsOfExamples(t *testing.T) { // P2.1
	for _, c := range []struct {
		p, q, want api.Path
		ok         bool
	}{
		{by(1, 2, 3), by(4, 0, most-3), by(5, 2, most), true},
		{by(1, 0, 0), by(most, 0, 0), api.Path{}, false},
		{by(0, 0, 1), by(0, 0, most), api.Path{}, false},
		{by(1, 0, 0), by(4, most, 0), by(5, most, 0), true},
		{by(1, 0, 0), by(0, 2, 0), by(1, 2, 0), true},
		{by(0, 0, 0), by(0, 0, 0), by(0, 0, 0), true},
		{by(0, 0, 0), by(most, most, most), by(most, most, most), true},
		// In each number: the greatest sum that is one, the least that is none, the greatest of all.
		{by(1, 7, 7), by(most-1, 7, 7), by(most, 14, 14), true},
		{by(7, 1, 7), by(7, most-1, 7), by(14, most, 14), true},
		{by(7, 7, 1), by(7, 7, most-1), by(14, 14, most), true},
		{by(1, 7, 7), by(most, 7, 7), api.Path{}, false},
		{by(7, 1, 7), by(7, most, 7), api.Path{}, false},
		{by(7, 7, 1), by(7, 7, most), api.Path{}, false},
		{by(most, 7, 7), by(most, 7, 7), api.Path{}, false},
		{by(7, most, 7), by(7, most, 7), api.Path{}, false},
		{by(7, 7, most), by(7, 7, most), api.Path{}, false},
		{by(1<<63, 0, 0), by(1<<63, 0, 0), api.Path{}, false},
		{by(0, 1<<63, 0), by(0, 1<<63-1, 0), by(0, most, 0), true},
	} {
		for _, turned := range []bool{false, true} {
			p, q := c.p, c.q
			if turned {
				p, q = q, p
			}
			if got, ok := Then(p, q); got != c.want || ok != c.ok {
				t.Errorf("Then(%v, %v) = %v, %v, want %v, %v", p, q, got, ok, c.want, c.ok)
			}
			if got, ok := On(p, api.Time(q)); got != api.Time(c.want) || ok != c.ok {
				t.Errorf("On(%v, %v) = %v, %v, want %v, %v", p, q, got, ok, c.want, c.ok)
			}
		}
	}
}

func TestSumsOfAllPairs(t *testing.T) { // P2.1
	l := grid(0, 1, 1<<63, most-1, most)
	for _, p := range l {
		for _, q := range l {
			want, wantOK := plainSums(p, q)
			if got, ok := Then(p, q); got != want || ok != wantOK {
				t.Errorf("Then(%v, %v) = %v, %v, want %v, %v", p, q, got, ok, want, wantOK)
			}
			if got, ok := On(p, api.Time(q)); got != api.Time(want) || ok != wantOK {
				t.Errorf("On(%v, %v) = %v, %v, want %v, %v", p, q, got, ok, want, wantOK)
			}
		}
	}
}

func TestOrdersOfExamples(t *testing.T) { // P2.2
	for _, c := range []struct {
		p, q          api.Path
		ahead, behind bool
		compare       int
	}{
		{by(1, 2, 0), by(1, 2, 1), true, false, -1},
		{by(0, 1, 0), by(1, 0, 0), false, false, -1},
		{by(0, 9, 9), by(1, 0, 0), false, false, -1},
		{by(0, 0, most), by(0, 1, 0), false, false, -1},
		{by(1, 0, 0), by(1, 0, 0), true, true, 0},
		{by(0, 0, 0), by(0, 0, 0), true, true, 0},
		{by(0, 0, 0), by(most, most, most), true, false, -1},
		{by(1<<63, 0, 0), by(1, 0, 0), false, true, 1},
	} {
		if Ahead(c.p, c.q) != c.ahead || Ahead(c.q, c.p) != c.behind {
			t.Errorf("Ahead of %v and %v: %v, the other way %v", c.p, c.q, Ahead(c.p, c.q), Ahead(c.q, c.p))
		}
		if Compare(c.p, c.q) != c.compare || Compare(c.q, c.p) != -c.compare {
			t.Errorf("Compare of %v and %v: %d, the other way %d", c.p, c.q, Compare(c.p, c.q), Compare(c.q, c.p))
		}
	}
}

func TestOrdersOfAllPairs(t *testing.T) { // P2.2
	l := grid(0, 1, 2, most)
	for _, p := range l {
		for _, q := range l {
			if Ahead(p, q) != atMostEach(p, q) {
				t.Errorf("Ahead(%v, %v) = %v", p, q, Ahead(p, q))
			}
			if got := Compare(p, q); got != plainCompare(p, q) {
				t.Errorf("Compare(%v, %v) = %d", p, q, got)
			}
		}
	}
}

func TestAdvances(t *testing.T) { // P2.2
	for _, p := range grid(0, 1, most) {
		if Advances(p) != (p.A > 0 || p.B > 0 || p.C > 0) {
			t.Errorf("Advances(%v) = %v", p, Advances(p))
		}
	}
}

func TestFits(t *testing.T) { // P2.3
	for _, c := range []struct {
		p     api.Path
		arity int
		e     api.Errno
	}{
		{by(1, 0, 0), 1, api.OK},
		{by(most, 0, 0), 1, api.OK},
		{by(0, 1, 0), 1, api.ErrArity},
		{by(0, 0, 1), 1, api.ErrArity},
		{by(1, most, most), 1, api.ErrArity},
		{by(0, most, 0), 2, api.OK},
		{by(0, 0, 1), 2, api.ErrArity},
		{by(1, 1, most), 2, api.ErrArity},
		{by(1, 2, most), 3, api.OK},
		{by(0, 0, 0), 1, api.OK},
		{by(0, 0, 0), 2, api.OK},
		{by(0, 0, 0), 3, api.OK},
		{by(0, 0, 0), 0, api.ErrArity},
		{by(0, 0, 0), 4, api.ErrArity},
		{by(1, 2, 3), 4, api.ErrArity},
		{by(0, 0, 0), -1, api.ErrArity},
		{by(0, 0, 0), -1 << 63, api.ErrArity},
		{by(0, 0, 0), 1<<63 - 1, api.ErrArity},
	} {
		if e := Fits(c.p, c.arity); e != c.e {
			t.Errorf("Fits(%v, %d) = %d, want %d", c.p, c.arity, e, c.e)
		}
	}
}
