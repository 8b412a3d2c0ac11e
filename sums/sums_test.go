package sums

import (
	"math"
	"math/big"
	"slices"
	"testing"

	"sluice/api"
	"sluice/draws"
)

const (
	top  = math.MaxUint64
	half = 1 << 63
)

func at(n ...uint64) api.Time {
	var t [api.MaxArity]uint64
	copy(t[:], n)
	return api.Time{A: t[0], B: t[1], C: t[2]}
}

func rec(key, val uint64) api.Record { return api.Record{Key: key, Val: val} }

// adds adds records to one time's; first: it is not held ahead of them.
func adds(t *testing.T, s *Sums, first bool, u api.Time, l ...api.Record) {
	t.Helper()
	for i, r := range l {
		if was := s.Add(u, r); was != (first && i == 0) {
			t.Errorf("Add(%v, %v): %t", u, r, was)
		}
	}
}

// holds asks by both calls that tell all times.
func holds(t *testing.T, s *Sums, want ...api.Time) {
	t.Helper()
	if l := s.Times(); !slices.Equal(l, want) {
		t.Errorf("Times: %v, want %v", l, want)
	}
	ready(t, s, nil, want...)
	ready(t, s, []api.Time{}, want...)
}

func ready(t *testing.T, s *Sums, front []api.Time, want ...api.Time) {
	t.Helper()
	if l := s.Ready(front); !slices.Equal(l, want) {
		t.Errorf("Ready(%v): %v, want %v", front, l, want)
	}
}

func tells(t *testing.T, s *Sums, u api.Time, want ...api.Record) {
	t.Helper()
	if l := s.Tell(u); !slices.Equal(l, want) {
		t.Errorf("Tell(%v): %v, want %v", u, l, want)
	}
}

// of is a time and what is to be told of it.
type of struct {
	time    api.Time
	records []api.Record
}

func has(u api.Time, l ...api.Record) of { return of{u, l} }

// hasJust tells that these times are held with these sums, and nothing else; what is told is told by a copy.
func hasJust(t *testing.T, s *Sums, want ...of) {
	t.Helper()
	var times []api.Time
	c := s.Copy()
	for _, o := range want {
		times = append(times, o.time)
		tells(t, c, o.time, o.records...)
	}
	holds(t, s, times...)
	holds(t, c)
}

// isEmpty tells that nothing is held, and that asking for it changes nothing.
func isEmpty(t *testing.T, s *Sums) {
	t.Helper()
	for range 2 {
		holds(t, s)
		for _, u := range []api.Time{at(), at(1), at(0, 1), at(0, 0, 1), at(1, 2, 3), at(half), at(top, top, top)} {
			ready(t, s, []api.Time{u})
			ready(t, s, []api.Time{at(5), u, at(), u})
			tells(t, s, u)
		}
	}
}

func TestTheExamples(t *testing.T) { // P22.1 to P22.3
	s := New()
	holds(t, s)
	tells(t, s, at(0, 0))
	isEmpty(t, s)

	adds(t, s, true, at(1, 0), rec(7, 5))
	adds(t, s, true, at(0, 2), rec(7, 1))
	adds(t, s, false, at(1, 0), rec(7, top-4), rec(3, 9))

	holds(t, s, at(0, 2), at(1, 0))

	ready(t, s, nil, at(0, 2), at(1, 0))
	ready(t, s, []api.Time{at(1, 0)}, at(0, 2))
	ready(t, s, []api.Time{at(0, 1)}, at(1, 0))
	ready(t, s, []api.Time{at(0, 0)})
	ready(t, s, []api.Time{at(2, 2)}, at(0, 2), at(1, 0))

	tells(t, s, at(1, 0), rec(3, 9), rec(7, 0))
	tells(t, s, at(1, 0))
	holds(t, s, at(0, 2))

	adds(t, s, true, at(1, 0), rec(1, 1))
	hasJust(t, s, has(at(0, 2), rec(7, 1)), has(at(1, 0), rec(1, 1)))
}

func TestANewOneHoldsNothing(t *testing.T) { // P22.1
	s := New()
	if s == nil || s == New() {
		t.Fatal("New makes none of its own")
	}
	isEmpty(t, s)
	// What was asked in vain leaves nothing behind.
	adds(t, s, true, at(1, 2, 3), rec(1, 1))
	hasJust(t, s, has(at(1, 2, 3), rec(1, 1)))
}

func TestAddIsTheFirstOnce(t *testing.T) { // P22.2
	for _, u := range []api.Time{at(), at(1), at(0, 1), at(0, 0, 1), at(half, half, half), at(top), at(top, top, top)} {
		s := New()
		adds(t, s, true, u, rec(7, 5), rec(7, 5), rec(8, 5), rec(6, 0), rec(7, 0))
		hasJust(t, s, has(u, rec(6, 0), rec(7, 10), rec(8, 5)))
		for n := range uint64(5) { // told, it comes again
			tells(t, s, at(9, 9, 9))
			if len(s.Tell(u)) == 0 {
				t.Errorf("%v was not held", u)
			}
			isEmpty(t, s)
			adds(t, s, true, u, rec(n, n), rec(n, 1), rec(n+1, 3))
			hasJust(t, s, has(u, rec(n, n+1), rec(n+1, 3)))
		}
	}
}

func TestAVal0Counts(t *testing.T) { // P22.2, P22.3
	s := New()
	adds(t, s, true, at(4), rec(0, 0))
	hasJust(t, s, has(at(4), rec(0, 0)))
	adds(t, s, false, at(4), rec(0, 0), rec(9, 0), rec(5, 0), rec(5, 2))
	hasJust(t, s, has(at(4), rec(0, 0), rec(5, 2), rec(9, 0)))
	tells(t, s, at(4), rec(0, 0), rec(5, 2), rec(9, 0))
	isEmpty(t, s)
	adds(t, s, true, at(), rec(0, 0), rec(0, 0))
	tells(t, s, at(), rec(0, 0))
	isEmpty(t, s)
}

func TestTimesUnlikeInOneNumber(t *testing.T) { // P22.2, P22.3
	for _, base := range []api.Time{at(), at(1, 2, 3), at(5, 5, 5), at(half-1, half-1, half-1), at(top-1, top-1, top-1), at(1<<32-1, 1<<32-1, 1<<32-1)} {
		times := []api.Time{base, at(base.A, base.B, base.C+1), at(base.A, base.B+1, base.C), at(base.A+1, base.B, base.C)}
		for i, u := range times {
			s := New()
			for j, v := range draws.Mixed(times, draws.Numbers(uint64(i))) {
				adds(t, s, true, v, rec(7, uint64(j)))
			}
			holds(t, s, times...)
			adds(t, s, false, u, rec(8, 1))
			told := s.Tell(u)
			if len(told) != 2 || told[0].Key != 7 || told[1] != rec(8, 1) {
				t.Errorf("Tell(%v): %v", u, told)
			}
			holds(t, s, slices.Delete(slices.Clone(times), i, i+1)...)
			for _, v := range times {
				if many := len(s.Tell(v)); many != 1 && u != v || many != 0 && u == v {
					t.Errorf("Tell(%v) behind Tell(%v): %d records", v, u, many)
				}
			}
			isEmpty(t, s)
		}
	}
}

func TestNumbersKeepTheirPlaces(t *testing.T) { // P22.2, P22.3
	s := New()
	numbers := []uint64{1, 2, 3, 4}
	var want []of
	for _, a := range numbers {
		for _, b := range numbers {
			for _, c := range numbers {
				o := of{time: at(a, b, c)}
				for _, key := range numbers {
					r := rec(key, a*1000+b*100+c*10+key)
					adds(t, s, key == 1, o.time, r)
					o.records = append(o.records, r)
				}
				want = append(want, o)
			}
		}
	}
	hasJust(t, s, want...)
}

func TestSumsModulo(t *testing.T) { // P22.3
	vals := []uint64{0, 1, 2, half - 1, half, half + 1, top - 1, top}
	modulus := new(big.Int).Lsh(big.NewInt(1), 64)
	seen := map[uint64]int{}
	for _, x := range vals {
		for _, y := range vals {
			for _, z := range vals {
				sum := new(big.Int)
				for _, v := range []uint64{x, y, z} {
					sum.Add(sum, new(big.Int).SetUint64(v))
				}
				want := sum.Mod(sum, modulus).Uint64()
				s := New()
				adds(t, s, true, at(3, 1), rec(7, x), rec(7, y), rec(7, z))
				adds(t, s, true, at(3, 2), rec(7, 44))
				tells(t, s, at(3, 1), rec(7, want))
				hasJust(t, s, has(at(3, 2), rec(7, 44)))
				seen[want]++
			}
		}
	}
	if seen[0] < 10 || seen[half] < 10 || seen[top] < 10 {
		t.Errorf("the sums are 0, 2^63, 2^64 - 1 only %d, %d, %d times", seen[0], seen[half], seen[top])
	}
}

func TestSumsOfMany(t *testing.T) { // P22.3
	s := New()
	for i := range uint64(1000) {
		adds(t, s, i == 0, at(2), rec(1, top), rec(2, half), rec(3, 1), rec(4, top/5))
	}
	tells(t, s, at(2), rec(1, top-999), rec(2, 0), rec(3, 1000), rec(4, top-199))
	isEmpty(t, s)
}

func TestKeysRise(t *testing.T) { // P22.3
	keys := []uint64{0, 1, 2, 1<<32 - 1, 1 << 32, half - 1, half, half + 1, top - 1, top}
	for seed := range uint64(50) {
		s := New()
		var want []api.Record
		for i, key := range draws.Mixed(keys, draws.Numbers(seed)) {
			adds(t, s, i == 0, at(1), rec(key, ^key), rec(key, 0))
		}
		for _, key := range keys {
			want = append(want, rec(key, ^key))
		}
		tells(t, s, at(1), want...)
		isEmpty(t, s)
	}
}

func TestTimesInTheOrderOfTelling(t *testing.T) { // P22.3
	numbers := []uint64{0, 1, 2, half - 1, half, top}
	var want []api.Time
	for _, a := range numbers {
		for _, b := range numbers {
			for _, c := range numbers {
				want = append(want, at(a, b, c))
			}
		}
	}
	for seed := range uint64(10) {
		s := New()
		for _, u := range draws.Mixed(want, draws.Numbers(seed)) {
			adds(t, s, true, u, rec(u.C, u.A))
		}
		for range 3 { // a map's order would be another one each time
			holds(t, s, want...)
		}
		for i, u := range want {
			tells(t, s, u, rec(u.C, u.A))
			if i%20 == 0 {
				holds(t, s, want[i+1:]...)
			}
		}
		isEmpty(t, s)
	}
}

func TestTellLeavesTheOthers(t *testing.T) { // P22.3
	all := []of{has(at(0, 2), rec(7, 1)), has(at(1, 0), rec(3, 9), rec(7, 0)), has(at(1, 0, 1), rec(0, 5), rec(7, 6), rec(top, 7)), has(at(top, top, top), rec(3, 3))}
	made := func() *Sums {
		s := New()
		for _, o := range all {
			adds(t, s, true, o.time, o.records...)
		}
		return s
	}
	for i, o := range all {
		s := made()
		for _, u := range []api.Time{at(), at(0, 1), at(0, 3), at(1), at(1, 1), at(1, 0, 2), at(2, 0), at(0, 0, 2), at(0, 1, 0), at(top), at(top, top), at(top, top, top-1)} {
			if slices.ContainsFunc(all, func(p of) bool { return p.time == u }) {
				continue
			}
			tells(t, s, u) // not held
		}
		hasJust(t, s, all...)
		rest := slices.Delete(slices.Clone(all), i, i+1)
		tells(t, s, o.time, o.records...)
		hasJust(t, s, rest...)
		tells(t, s, o.time)
		hasJust(t, s, rest...)
		for _, p := range rest {
			adds(t, s, false, p.time, rec(7, 0))
		}
		adds(t, s, true, o.time, rec(4, 4))
		tells(t, s, o.time, rec(4, 4))
	}
}
