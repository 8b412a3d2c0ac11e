package reach

import (
	"slices"
	"testing"

	"sluice/api"
	"sluice/draws"
	"sluice/paths"
)

// drawnTime fits the arity, and is one of few, so that they come again and hide one another, and of which some are close to the greatest.
func drawnTime(next func(below int) int, arity int) api.Time {
	var numbers [api.MaxArity]uint64
	for i := range arity {
		numbers[i] = []uint64{0, 1, 2, 3, 4, 5, 6, 7, 1 << 63, last - 3, last - 1, last}[next(12)]
	}
	return at(numbers[:]...)
}

// drawnList has changes that stay far from the ends of the range, at places alone.
func drawnList(next func(below int) int, places, arity int) []api.Change {
	var l []api.Change
	for range next(6) {
		if places > 0 {
			l = append(l, api.Change{S: api.Stamp{At: next(places), T: drawnTime(next, arity)}, N: int64(next(6)) - 2})
		}
	}
	return l
}

// anyList has changes of which some may not be, or are at the ends of the range.
func anyList(next func(below int) int, places, arity int) []api.Change {
	l := drawnList(next, places, arity)
	for i := range l {
		switch next(40) {
		case 0:
			l[i].S.At = places + next(2)
		case 1:
			l[i].S.At = -1 - next(2)
		case 2:
			l[i].S.T = drawnTime(next, api.MaxArity)
		case 3, 4:
			l[i].N += most
		case 5, 6:
			l[i].N -= most
		}
	}
	return l
}

// away takes some of all counts to 0.
func away(next func(below int) int, p plain) []api.Change {
	var l []api.Change
	for _, c := range p.list() {
		if next(3) == 0 {
			l = append(l, api.Change{S: c.S, N: -c.N})
		}
	}
	return l
}

// holds holds all that a reach tells against the plain one.
func (p plain) holds(t *testing.T, r *Reach, next func(below int) int) {
	t.Helper()
	turns(t, r, p.turns...)
	counts(t, r, p.list()...)
	for place, want := range p.fronts() {
		fronts(t, r, place, want...)
		u := drawnTime(next, api.MaxArity)
		opens(t, r, place, plainOpen(want, u), u)
	}
	s := api.Stamp{At: next(p.places+2) - 1, T: drawnTime(next, api.MaxArity)}
	if n := r.Count(s); n != p.counts[s] {
		t.Errorf("Count(%v) = %d, want %d", s, n, p.counts[s])
	}
}

func TestAnyChangesGoByTheWords(t *testing.T) { // P12.2 to P12.5
	answered := map[api.Errno]int{}
	wide, came, went := 0, 0, 0
	for seed := range uint64(1500) {
		next := draws.Numbers(seed)
		raw := draws.Advancing(next, 9, 16)
		reaches, plains := [2]*Reach{of(t, raw), of(t, raw)}, [2]plain{plainOf(raw), plainOf(raw)}
		for range 25 {
			i := next(2)
			l := anyList(next, plains[i].places, raw.Arity)
			if next(4) == 0 {
				l = away(next, plains[i])
			}
			if next(9) == 0 {
				reaches[1-i], plains[1-i] = reaches[i].Copy(), plains[i].copied()
			}
			want := plains[i].change(l)
			if e := reaches[i].Change(l...); e != want {
				t.Errorf("Change(%v) = %d, want %d", l, e, want)
			}
			answered[want]++
			for j, p := range plains {
				p.holds(t, reaches[j], next)
			}
			for _, c := range plains[i].turns {
				came, went = came+int(c.N+1)/2, went+int(1-c.N)/2
			}
			for _, l := range plains[i].fronts() {
				wide += len(l) / 2
			}
			if t.Failed() {
				t.Fatalf("seed %d: %v", seed, raw)
			}
		}
	}
	if len(answered) != 4 || min(answered[api.OK], answered[api.ErrPlace], answered[api.ErrArity], answered[api.ErrRange], wide, came, went) < 500 {
		t.Errorf("drawn: answers %v, %d times several in a front, %d came, %d went", answered, wide, came, went)
	}
}

// reached is the front of a place by the words of the chapter: by the least paths, of the stamps with a count above 0.
func reached(table *paths.Table, r *Reach, place int) []api.Time {
	var l []api.Stamp
	for _, c := range r.Counts() {
		if c.N > 0 {
			l = append(l, c.S)
		}
	}
	return table.Front(place, l...)
}

func TestGreatGraphsByLeastPaths(t *testing.T) { // P12.2, P12.3, P12.6
	several, places := 0, 0
	for seed := range uint64(150) {
		next := draws.Numbers(seed)
		raw := draws.Advancing(next, api.MaxNodes+1, api.MaxEdges+1)
		table, _ := paths.New(made(t, raw))
		r := of(t, raw)
		places = max(places, r.places())
		was := make([][]api.Time, r.places())
		for range 12 {
			l := slices.Concat(drawnList(next, r.places(), raw.Arity), drawnList(next, r.places(), raw.Arity))
			changes(t, r, l...)
			is := make([][]api.Time, r.places())
			for place := range is {
				is[place] = reached(table, r, place)
				fronts(t, r, place, is[place]...)
				several += len(is[place]) / 2
			}
			turns(t, r, turned(was, is)...)
			was = is
		}
		if t.Failed() {
			t.Fatalf("seed %d: %v", seed, raw)
		}
	}
	if several < 500 || places < 60 {
		t.Errorf("drawn: %d times several in a front, at most %d places", several, places)
	}
}

func TestNoStepLeadsBackInTheWorklist(t *testing.T) { // chapter 12, Ways: else a stamp could be met again and again
	empty := 0
	for seed := range uint64(1000) {
		next := draws.Numbers(seed)
		raw := draws.Advancing(next, 12, 25)
		r := of(t, raw)
		for _, s := range plainOf(raw).steps {
			from := drawnTime(next, raw.Arity)
			to, ok := plainOn(s.By, from)
			a, b := api.Change{S: api.Stamp{At: s.From, T: from}}, api.Change{S: api.Stamp{At: s.To, T: to}}
			if ok && (!r.ways.first(a, b) || r.ways.first(b, a)) {
				t.Fatalf("seed %d: from %v to %v: %v", seed, a, b, raw)
			}
			if from == to {
				empty++
			}
		}
	}
	if empty < 1000 {
		t.Errorf("drawn: %d empty steps", empty)
	}
}

func TestNewRefusesWhatPathsDoes(t *testing.T) { // P12.1
	answered := map[api.Errno]int{}
	for seed := range uint64(1000) {
		g := made(t, draws.Graph(draws.Numbers(seed), 9, 16))
		_, want := paths.New(g)
		r, e := New(g)
		if e != want || (r == nil) != (e != api.OK) {
			t.Fatalf("seed %d: New = %v, %d, want %d", seed, r, e, want)
		}
		answered[e]++
	}
	if min(answered[api.OK], answered[api.ErrCycle]) < 100 {
		t.Errorf("drawn: %v", answered)
	}
}

// inParts changes by a list in parts of drawn lengths: all that turned, added up.
func inParts(t *testing.T, r *Reach, l []api.Change, next func(below int) int) []api.Change {
	t.Helper()
	sums := map[api.Stamp]int64{}
	for len(l) > 0 {
		n := 1 + next(min(len(l), 5))
		changes(t, r, l[:n]...)
		for _, c := range r.Turns() {
			sums[c.S] += c.N
		}
		l = l[n:]
	}
	return listed(sums)
}

func TestOneListAndItsPartsInAnyOrder(t *testing.T) { // P12.6
	turned := 0
	for seed := range uint64(300) {
		next := draws.Numbers(seed)
		raw := draws.Advancing(next, 9, 16)
		begin := of(t, raw)
		if begin.places() == 0 {
			continue
		}
		var l []api.Change
		for range 6 {
			changes(t, begin, drawnList(next, begin.places(), raw.Arity)...)
			l = append(l, drawnList(next, begin.places(), raw.Arity)...)
		}
		whole := begin.Copy()
		changes(t, whole, l...)
		turned += len(whole.Turns())
		for range 4 {
			r := begin.Copy()
			if sum := inParts(t, r, draws.Mixed(l, next), next); !slices.Equal(sum, whole.Turns()) {
				t.Errorf("turned in parts: %v, at once: %v", sum, whole.Turns())
			}
			counts(t, r, whole.Counts()...)
			for place := range r.places() {
				fronts(t, r, place, whole.Front(place)...)
			}
		}
		if t.Failed() {
			t.Fatalf("seed %d: %v: %v", seed, l, raw)
		}
	}
	if turned < 1000 {
		t.Errorf("only %d turned", turned)
	}
}

func TestFrontsHangOnTheCountsAlone(t *testing.T) { // P12.6
	for seed := range uint64(300) {
		next := draws.Numbers(seed)
		raw := draws.Advancing(next, 9, 16)
		r := of(t, raw)
		sums := map[api.Stamp]int64{}
		for range 15 {
			l := drawnList(next, r.places(), raw.Arity)
			changes(t, r, l...)
			for _, c := range r.Turns() {
				sums[c.S] += c.N
			}
		}
		// Another one that comes to the same counts at once.
		other := of(t, raw)
		changes(t, other, r.Counts()...)
		for place := range r.places() {
			fronts(t, other, place, r.Front(place)...)
		}
		// All that ever turned comes to the fronts that there are.
		turns(t, other, listed(sums)...)
		// And all counts away is as from the beginning.
		var back []api.Change
		for _, c := range r.Counts() {
			back = append(back, api.Change{S: c.S, N: -c.N})
		}
		changes(t, r, draws.Mixed(back, next)...)
		counts(t, r)
		for place := range r.places() {
			fronts(t, r, place)
		}
		if t.Failed() {
			t.Fatalf("seed %d: %v", seed, raw)
		}
	}
}

func TestWhatCouldResultIsOpen(t *testing.T) { // P12.6
	could, not := 0, 0
	for seed := range uint64(500) {
		next := draws.Numbers(seed)
		raw := draws.Advancing(next, 9, 16)
		table, _ := paths.New(made(t, raw))
		r := of(t, raw)
		for range 8 {
			changes(t, r, drawnList(next, r.places(), raw.Arity)...)
			to := api.Stamp{At: next(r.places()), T: drawnTime(next, raw.Arity)}
			some := slices.ContainsFunc(r.Counts(), func(c api.Change) bool { return c.N > 0 && table.Could(c.S, to) })
			// Nothing else is open.
			opens(t, r, to.At, some, to.T)
			if some {
				could++
			} else {
				not++
			}
		}
		if t.Failed() {
			t.Fatalf("seed %d: %v", seed, raw)
		}
	}
	if min(could, not) < 500 {
		t.Errorf("drawn: %d could, %d could not", could, not)
	}
}
