package reach

import (
	"math"
	"reflect"
	"slices"
	"sync"
	"testing"

	"sluice/api"
	"sluice/draws"
	"sluice/graph"
)

// answers are what a reach tells: of all its places, and of some that are none.
type answers struct {
	turns, counts []api.Change
	fronts        [][]api.Time
	open          []bool
	single        []int64
}

func answersOf(r *Reach) answers {
	a := answers{turns: r.Turns(), counts: r.Counts()}
	for place := -1; place <= r.places(); place++ {
		a.fronts = append(a.fronts, r.Front(place))
		for _, u := range []api.Time{at(), at(1, 2), at(4), at(last, last, last)} {
			s := api.Stamp{At: place, T: u}
			a.open, a.single = append(a.open, r.Open(place, u)), append(a.single, r.Count(s))
		}
	}
	return a
}

func (a answers) copied() answers {
	a.turns, a.counts = slices.Clone(a.turns), slices.Clone(a.counts)
	a.open, a.single = slices.Clone(a.open), slices.Clone(a.single)
	fronts := a.fronts
	a.fronts = nil
	for _, l := range fronts {
		a.fronts = append(a.fronts, slices.Clone(l))
	}
	return a
}

func (a answers) same(b answers) bool {
	return slices.Equal(a.turns, b.turns) && slices.Equal(a.counts, b.counts) && slices.EqualFunc(a.fronts, b.fronts, slices.Equal) && slices.Equal(a.open, b.open) && slices.Equal(a.single, b.single)
}

// spoil writes over all lists, grows them, and writes over the room behind them.
func (a answers) spoil() {
	spoiled(a.turns, ch(-9, 9, 9, 9, 9))
	spoiled(a.counts, ch(-9, 9, 9, 9, 9))
	for _, l := range a.fronts {
		spoiled(l, at(9, 9, 9))
	}
}

func spoiled[T any](l []T, with T) {
	grown := append(l, with)
	for _, m := range [][]T{l[:cap(l)], grown[:cap(grown)]} {
		for i := range m {
			m[i] = with
		}
	}
}

// several are some with counts and with something that turned last.
func several(t *testing.T) []*Reach {
	none := of(t, api.Graph{Arity: 2})
	one := of(t, round(), ch(0, 1, 4), ch(3, -1, 0))
	changes(t, one, ch(1, 2, 2), ch(6, 1, 1))
	two := of(t, around(), ch(6, 1, 2, 7), ch(8, 1, 7, 2), ch(9, -2, 0, 0))
	changes(t, two, ch(6, -1, 2, 7), ch(4, 1, 3, 3))
	row := of(t, doubling(6), ch(0, 1, 1, 1), ch(5, 1, 0, 99))
	changes(t, row, ch(0, -1, 1, 1), ch(0, 1, 2, 1), ch(11, 3, 1, 2))
	return []*Reach{none, of(t, round()), one, two, row}
}

func TestANilOne(t *testing.T) { // P1
	var r *Reach
	for _, l := range [][]api.Change{nil, {ch(0, 1, 0)}, {ch(-1, 1, 0)}, {ch(0, most+1, 0)}} {
		changes(t, r, l...)
		turns(t, r)
		counts(t, r)
	}
	for _, place := range []int{0, 1, -1, math.MaxInt, math.MinInt} {
		fronts(t, r, place)
		opens(t, r, place, false, at(), at(last, last, last))
		if r.Count(stamped(place)) != 0 {
			t.Error("a nil one counts")
		}
	}
	if r.Copy() != nil {
		t.Error("the copy of a nil one isn't nil")
	}
}

func TestWhatIsToldIsNewMemory(t *testing.T) { // P2, P3
	for i, r := range several(t) {
		one := answersOf(r)
		kept := one.copied()
		two := answersOf(r)
		one.spoil()
		if !two.same(kept) {
			t.Errorf("%d: an answer that is written over is seen in another one", i)
		}
		if !answersOf(r).same(kept) {
			t.Errorf("%d: asked again, it is told otherwise", i)
		}
		// Nor does it see what is changed later.
		later := answersOf(r)
		if r.places() > 0 {
			changes(t, r, ch(0, 5, 0), ch(r.places()-1, 2, 1))
			changes(t, r, ch(0, -5, 0), ch(r.places()-1, -2, 1))
		}
		if !later.same(kept) {
			t.Errorf("%d: an answer saw a later change", i)
		}
	}
}

func TestOneListByItself(t *testing.T) { // P2
	r := of(t, forked(), ch(0, 1, 2, 2), ch(2, 1, 0, 9))
	spoiled(r.Turns()[:2], ch(7, 7, 7))
	turns(t, r, ch(0, 1, 2, 2), ch(1, 1, 2, 3), ch(1, 1, 3, 2), ch(2, 1, 0, 9), ch(2, 1, 2, 3), ch(2, 1, 3, 2))
	spoiled(r.Front(2)[:1], at(7, 7))
	fronts(t, r, 2, at(0, 9), at(2, 3), at(3, 2))
	fronts(t, r, 1, at(2, 3), at(3, 2))
	spoiled(r.Counts()[:1], ch(7, 7, 7))
	counts(t, r, ch(0, 1, 2, 2), ch(2, 1, 0, 9))
	changes(t, r, ch(0, -1, 2, 2))
	turns(t, r, ch(0, -1, 2, 2), ch(1, -1, 2, 3), ch(1, -1, 3, 2), ch(2, -1, 2, 3), ch(2, -1, 3, 2))
}

func TestWhatIsHandedInStaysAsItWas(t *testing.T) { // P2
	room := []api.Change{ch(6, 1, 3), ch(0, 2, 4), ch(6, -1, 3), ch(0, 1, 1), ch(9, 9, 9), ch(8, 8, 8)}
	was := slices.Clone(room)
	r := of(t, round())
	for many := range len(room) + 1 {
		e := r.Change(room[:many]...)
		if !slices.Equal(room, was) || (e == api.OK) != (many <= 4) {
			t.Fatalf("of %d changes: %d, they are %v", many, e, room)
		}
	}
	full := of(t, round(), ch(0, most, 4))
	refuses(t, full, api.ErrRange, room[:4]...)
	if !slices.Equal(room, was) {
		t.Errorf("they are %v", room)
	}
	// They are not kept.
	kept := answersOf(r)
	clear(room)
	if !answersOf(r).same(kept) {
		t.Error("a list that is written over is seen")
	}
	// Turns, handed in and written over, is a list as any other one.
	l := r.Turns()
	changes(t, r, l...)
	clear(l)
	changes(t, r, ch(0, 1, 0))
	turns(t, r, ch(0, 1, 0), ch(0, -1, 1), ch(1, 1, 0), ch(1, -1, 1), ch(2, 1, 1), ch(2, -1, 2), ch(3, 1, 0), ch(3, -1, 1), ch(4, 1, 1), ch(4, -1, 2), ch(5, 1, 0), ch(5, -1, 1), ch(6, 1, 0), ch(6, -1, 1))
}

// looks is what a graph tells of itself.
func looks(g *graph.Graph) []any {
	l := []any{g.Raw(), g.Arity(), g.Nodes(), g.Places()}
	for node := range g.Nodes() {
		l = append(l, g.Conns(node))
	}
	for place := range g.Places() {
		node, port, in := g.Of(place)
		l = append(l, node, port, in, slices.Collect(g.Edges(place)))
	}
	return l
}

func TestTheGraphStaysAsItWas(t *testing.T) { // P2, P5
	for i, raw := range []api.Graph{{Arity: 2}, round(), around(), forked(), doubling(6), doubling(7)} {
		raw = draws.Roomy(raw)
		was := draws.Spare(raw)
		g := made(t, raw)
		looked := looks(g)
		r, _ := New(g)
		other, _ := New(g)
		r.Change(ch(0, 1, 1))
		answersOf(r).spoil()
		if !reflect.DeepEqual(looks(g), looked) || !reflect.DeepEqual(draws.Spare(raw), was) {
			t.Errorf("graph %d is changed", i)
		}
		// Two of one graph have nothing to do with each other.
		if len(other.Counts()) != 0 || len(other.Turns()) != 0 || len(other.Front(0)) != 0 {
			t.Errorf("graph %d: what is done to one is seen in another", i)
		}
	}
}

func TestCopyAndThenChanges(t *testing.T) { // P12.5, P5
	lists := [][]api.Change{nil, {ch(0, 1, 0)}, {ch(0, -1, 4), ch(0, 1, 9)}, {ch(1, -2, 2), ch(3, 2, 0)}, {ch(6, -1, 1)}, {ch(5, 1, 1), ch(4, -1, 3)}}
	begin := func() *Reach {
		r := of(t, round(), ch(0, 1, 4), ch(3, -1, 0))
		changes(t, r, ch(1, 2, 2), ch(6, 1, 1))
		return r
	}
	behind := func(l []api.Change) answers {
		r := begin()
		changes(t, r, l...)
		return answersOf(r)
	}
	for _, one := range lists {
		for _, other := range lists {
			r := begin()
			c := r.Copy()
			if !answersOf(c).same(answersOf(r)) {
				t.Fatal("the copy tells something else")
			}
			changes(t, r, one...)
			if !answersOf(c).same(answersOf(begin())) {
				t.Errorf("the copy saw %v", one)
			}
			changes(t, c, other...)
			if !answersOf(r).same(behind(one)) || !answersOf(c).same(behind(other)) {
				t.Errorf("behind %v and %v: they saw one another", one, other)
			}
		}
	}
	for _, r := range several(t) {
		// The original is let go, and a copy of the copy stands for it.
		kept := answersOf(r)
		c := r.Copy().Copy()
		if !answersOf(c).same(kept) {
			t.Error("the copy tells something else")
		}
		answersOf(c).spoil()
		if !answersOf(r).same(kept) || !answersOf(c).same(kept) {
			t.Error("answers of the copy are memory of the one or the other")
		}
		refuses(t, c, api.ErrPlace, ch(-1, 1))
		if r.places() > 0 {
			refuses(t, c, api.ErrRange, ch(0, most+1))
		}
	}
	if c := of(t, round()).Copy(); len(c.Turns()) != 0 || len(c.Counts()) != 0 {
		t.Error("the copy of a new one has something")
	}
}

func TestTheOrderOfEdgesAndConnectionsPlaysNoPart(t *testing.T) { // P3
	for seed := range uint64(300) {
		next := draws.Numbers(seed)
		raw := draws.Advancing(next, 9, 14)
		r := of(t, raw)
		raw.Edges = draws.Mixed(raw.Edges, next)
		for i, n := range raw.Nodes {
			raw.Nodes[i].Conns = draws.Mixed(n.Conns, next)
		}
		mixed := of(t, raw)
		for range 12 {
			l := drawnList(next, r.places(), raw.Arity)
			if r.Change(l...) != mixed.Change(draws.Mixed(l, next)...) || !answersOf(r).same(answersOf(mixed)) {
				t.Fatalf("seed %d: %v is told otherwise: %v", seed, l, raw)
			}
		}
	}
}

func TestManyAskAtOnce(t *testing.T) { // P3
	for _, r := range several(t) {
		kept := answersOf(r)
		var all sync.WaitGroup
		for range 8 {
			all.Go(func() {
				c := r.Copy()
				if !answersOf(r).same(kept) || !answersOf(c).same(kept) {
					t.Error("many who ask are told otherwise")
				}
				// Copies share nothing that a change touches.
				for range 20 {
					c.Change(ch(0, 1, 3))
					c.Change(ch(0, -1, 3))
				}
			})
		}
		all.Wait()
		if !answersOf(r).same(kept) {
			t.Error("what was done to the copies is seen")
		}
	}
}

func TestTimesThatWentAreNotKept(t *testing.T) { // the language's rule 8
	r := of(t, around())
	for a := range uint64(30) {
		changes(t, r, ch(0, 1, a, 30-a), ch(6, -2, a, a))
		changes(t, r, ch(8, 1, 30-a, a))
	}
	for a := range uint64(30) {
		changes(t, r, ch(0, -1, a, 30-a), ch(8, -1, 30-a, a))
		changes(t, r, ch(6, 2, a, a))
	}
	for place := range r.places() {
		if r.own[place].Len() != 0 || r.come[place].Len() != 0 {
			t.Errorf("at %d times are kept: %v, %v", place, r.own[place].Times(), r.come[place].Times())
		}
	}
}
