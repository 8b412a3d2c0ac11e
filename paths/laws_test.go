package paths

import (
	"slices"
	"testing"

	"sluice/api"
	"sluice/draws"
)

// drawn is a graph in which every cycle advances.
func drawn(t *testing.T, seed, nodes, edges int) (api.Graph, *Table) {
	t.Helper()
	raw := draws.Advancing(draws.Numbers(uint64(seed)), nodes, edges)
	return raw, tabled(t, "drawn", raw)
}

// drawnTime has any of its numbers, whatever the arity, so that many are close to others, and to the greatest.
func drawnTime(next func(below int) int) api.Time {
	number := func() uint64 {
		return []uint64{0, 0, 0, 1, 2, 3, 4, 1 << 63, 1<<63 + 1, most - 3, most - 1, most}[next(12)]
	}
	return api.Time{A: number(), B: number(), C: number()}
}

// drawnStamp is at a place, or close to one.
func drawnStamp(next func(below int) int, places int) api.Stamp {
	return api.Stamp{At: next(places+3) - 1, T: drawnTime(next)}
}

func isPlace(p, places int) bool { return 0 <= p && p < places }

func TestSmallGraphsAgainstAllWays(t *testing.T) { // P11.1, P11.2
	still, advancing, several, nothing := 0, 0, 0, 0
	draw := []func(next func(below int) int, nodes, edges int) api.Graph{draws.Graph, draws.Advancing}
	for seed := range 6000 {
		raw := draw[seed%2](draws.Numbers(uint64(seed)), 8, 13)
		x, e := New(made(t, "drawn", raw))
		g := plainOf(raw)
		if g.standsStill() {
			still++
			if x != nil || e != api.ErrCycle {
				t.Fatalf("seed %d: New = %d, want ErrCycle: %v", seed, e, raw)
			}
			continue
		}
		advancing += min(len(raw.Edges), 1)
		if e != api.OK || x.Places() != len(g) {
			t.Fatalf("seed %d: New = %d, %d places: %v", seed, e, x.Places(), raw)
		}
		for p, ways := range g.all() {
			var to []int
			for q, l := range ways {
				want := plainLeast(l)
				if got := x.Least(p, q); !slices.Equal(got, want) {
					t.Fatalf("seed %d: Least(%d, %d) = %v, want %v: %v", seed, p, q, got, want, raw)
				}
				if len(l) > 0 {
					to = append(to, q)
				} else {
					nothing++
				}
				several += len(want) / 2
			}
			if got := x.To(p); !slices.Equal(got, to) {
				t.Fatalf("seed %d: To(%d) = %v, want %v: %v", seed, p, got, to, raw)
			}
		}
	}
	if min(still, advancing, several, nothing) < 1000 {
		t.Errorf("drawn: %d with an empty cycle, %d without, %d times several least paths, %d times none", still, advancing, several, nothing)
	}
}

func TestGreatGraphsAgainstTheWords(t *testing.T) { // P11.1, P11.2
	several, most := 0, 0
	for seed := range 400 {
		raw, x := drawn(t, seed, api.MaxNodes+1, api.MaxEdges+1)
		g := plainOf(raw)
		for p := range g {
			for q, want := range g.leastFrom(p) {
				if got := x.Least(p, q); !slices.Equal(got, want) {
					t.Fatalf("seed %d: Least(%d, %d) = %v, want %v: %v", seed, p, q, got, want, raw)
				}
				several, most = several+len(want)/2, max(most, len(want))
			}
		}
	}
	if several < 1000 || most < 5 {
		t.Errorf("drawn: %d times several least paths, at most %d", several, most)
	}
}

// rowed is a row of free nodes with several connections each, so that there are about as many least paths as may be; where it is closed to a ring, every cycle advances.
func rowed(next func(below int) int) api.Graph {
	g := api.Graph{Arity: 2 + next(2)}
	for i := range 2 + next(4) {
		n := free(1, 1)
		for range 3 + next(5) {
			var numbers [api.MaxArity]uint64
			for j := range g.Arity {
				numbers[j] = uint64(next(16) << (2 * i))
			}
			numbers[next(g.Arity)]++
			c := api.Conn{By: by(numbers[:]...)}
			if !slices.Contains(n.Conns, c) {
				n.Conns = append(n.Conns, c)
			}
		}
		g.Nodes = append(g.Nodes, n)
		g.Edges = append(g.Edges, api.Edge{From: i, To: i + 1})
	}
	g.Edges[len(g.Nodes)-1].To = 0
	return api.Graph{Arity: g.Arity, Nodes: g.Nodes, Edges: g.Edges[:len(g.Nodes)-next(2)]}
}

func TestRowsAgainstTheWords(t *testing.T) { // P11.1, P11.2
	const just = api.MaxLeast
	wide, close, few := 0, 0, 0
	for seed := range 800 {
		raw := rowed(draws.Numbers(uint64(seed)))
		g := plainOf(raw)
		x, e := New(made(t, "a row", raw))
		most, same := 0, true
		for p := range g {
			for q, want := range g.leastFrom(p) {
				most = max(most, len(want))
				same = same && slices.Equal(x.Least(p, q), want)
			}
		}
		switch {
		case most > just:
			wide++
			if x != nil || e != api.ErrWide {
				t.Fatalf("seed %d: New = %d where there are %d least paths: %v", seed, e, most, raw)
			}
			continue
		case most > just/2:
			close++
		default:
			few++
		}
		if e != api.OK || !same {
			t.Fatalf("seed %d: New = %d where there are at most %d least paths; they are the same: %v: %v", seed, e, most, same, raw)
		}
	}
	if min(wide, close, few) < 50 {
		t.Errorf("drawn: %d too wide, %d close to it, %d others", wide, close, few)
	}
}

func TestFrontsAndWhatCouldResultAgainstAllWays(t *testing.T) { // P11.3, P11.4, P11.5
	yes, no, apart, none := 0, 0, 0, 0
	for seed := range 4000 {
		raw, x := drawn(t, seed, 8, 13)
		next := draws.Numbers(uint64(seed) + 1<<32)
		all := plainOf(raw).all()
		places := len(all)
		for range 40 {
			q := next(places+3) - 1
			var l []api.Stamp
			var times []api.Path
			for range next(6) {
				s := drawnStamp(next, places)
				l = append(l, slices.Repeat([]api.Stamp{s}, 1+next(2))...)
				if isPlace(s.At, places) && isPlace(q, places) {
					times = append(times, plainTimes(all[s.At][q], s.T)...)
				}
			}
			want := plainLeast(times)
			if got := x.Front(q, l...); !slices.Equal(asPaths(got), want) {
				t.Fatalf("seed %d: Front(%d, %v) = %v, want %v: %v", seed, q, l, got, want, raw)
			}
			apart += len(want) / 2
			a, b := drawnStamp(next, places), drawnStamp(next, places)
			could := false
			if isPlace(a.At, places) && isPlace(b.At, places) {
				times := plainTimes(all[a.At][b.At], a.T)
				could = slices.ContainsFunc(times, func(u api.Path) bool { return plainAhead(u, api.Path(b.T)) })
				none += len(all[a.At][b.At]) - len(times)
			}
			if x.Could(a, b) != could {
				t.Fatalf("seed %d: Could(%v, %v) isn't %v: %v", seed, a, b, could, raw)
			}
			if could {
				yes++
			} else {
				no++
			}
		}
	}
	if min(yes, no, apart, none) < 1000 {
		t.Errorf("drawn: %d could, %d could not, %d times apart, %d times that are none", yes, no, apart, none)
	}
}

func asPaths(l []api.Time) []api.Path {
	var paths []api.Path
	for _, t := range l {
		paths = append(paths, api.Path(t))
	}
	return paths
}

func TestCouldIsToBeOpenAtTheFront(t *testing.T) { // P11.5
	open, done := 0, 0
	for seed := range 3000 {
		_, x := drawn(t, seed, 12, 20)
		next := draws.Numbers(uint64(seed) + 2<<32)
		for range 60 {
			a, b := drawnStamp(next, x.Places()), drawnStamp(next, x.Places())
			is := slices.ContainsFunc(x.Front(b.At, a), func(u api.Time) bool { return plainAhead(api.Path(u), api.Path(b.T)) })
			if x.Could(a, b) != is {
				t.Fatalf("seed %d: Could(%v, %v) is %v, and Front(%d, a) is %v", seed, a, b, !is, b.At, x.Front(b.At, a))
			}
			if is {
				open++
			} else {
				done++
			}
		}
	}
	if min(open, done) < 1000 {
		t.Errorf("drawn: %d open, %d done", open, done)
	}
}

func TestTheLeastPathsTellOfAllWays(t *testing.T) { // P11.5
	again, held := 0, 0
	for seed := range 3000 {
		raw, x := drawn(t, seed, 8, 13)
		next := draws.Numbers(uint64(seed) + 3<<32)
		g := plainOf(raw)
		for p := range g {
			left := 2000
			g.strolls(p, 9, api.Path{}, func(q int, by api.Path) {
				if left--; left < 0 {
					return
				}
				if q == p && by != (api.Path{}) {
					again++
				}
				u := drawnTime(next)
				come, ok := plainSum(by, api.Path(u))
				if !ok {
					return
				}
				held++
				if !slices.ContainsFunc(plainTimes(x.Least(p, q), u), func(v api.Path) bool { return plainAhead(v, come) }) {
					t.Fatalf("seed %d: a way from %d to %d by %v: no least path is at or ahead of it at %v: %v", seed, p, q, by, u, raw)
				}
				if !x.Could(api.Stamp{At: p, T: u}, api.Stamp{At: q, T: api.Time(come)}) {
					t.Fatalf("seed %d: a way from %d to %d by %v: it could not result, at %v: %v", seed, p, q, by, u, raw)
				}
			})
		}
	}
	if min(again, held) < 1000 {
		t.Errorf("drawn: %d ways that come back, %d in all", again, held)
	}
}

func TestNoLeastPathIsAtOrAheadOfAnother(t *testing.T) { // P11.2
	for seed := range 1500 {
		_, x := drawn(t, seed, 12, 20)
		for p := range x.Places() {
			for q := range x.Places() {
				l := x.Least(p, q)
				if !slices.Equal(plainLeast(l), l) {
					t.Fatalf("seed %d: Least(%d, %d) = %v", seed, p, q, l)
				}
				if p == q && !slices.Equal(l, []api.Path{{}}) {
					t.Fatalf("seed %d: Least(%d, %d) = %v", seed, p, q, l)
				}
				if (len(l) > 0) != slices.Contains(x.To(p), q) {
					t.Fatalf("seed %d: Least(%d, %d) = %v, To = %v", seed, p, q, l, x.To(p))
				}
			}
		}
	}
}

func TestCouldIsAnOrder(t *testing.T) { // P11.6
	rows, pairs := 0, 0
	for seed := range 1500 {
		_, x := drawn(t, seed, 6, 9)
		if x.Places() == 0 {
			continue
		}
		next := draws.Numbers(uint64(seed) + 4<<32)
		var l []api.Stamp
		for range 16 {
			s := api.Stamp{At: next(x.Places()), T: drawnTime(next)}
			l = append(l, s)
			// One that it could result in, so that such pairs aren't rare.
			to := x.To(s.At)
			q := to[next(len(to))]
			for _, u := range x.Front(q, s) {
				l = append(l, api.Stamp{At: q, T: u})
			}
		}
		for _, a := range l {
			if !x.Could(a, a) {
				t.Fatalf("seed %d: %v couldn't result in itself", seed, a)
			}
			for _, b := range l {
				if a == b || !x.Could(a, b) {
					continue
				}
				pairs++
				if x.Could(b, a) {
					t.Fatalf("seed %d: %v and %v could result in one another", seed, a, b)
				}
				for _, c := range l {
					if b == c || !x.Could(b, c) {
						continue
					}
					rows++
					if !x.Could(a, c) {
						t.Fatalf("seed %d: %v could result in %v, this in %v, but not the first in the last", seed, a, b, c)
					}
				}
			}
		}
	}
	if min(rows, pairs) < 1000 {
		t.Errorf("drawn: %d pairs, %d rows of three", pairs, rows)
	}
}
