package view

import (
	"bytes"
	"math"
	"reflect"
	"slices"
	"sync"
	"testing"

	"sluice/api"
	"sluice/batch"
	"sluice/draws"
	"sluice/graph"
)

// answers are what a view tells: of all numbers that could be a place's, and of some that could not.
type answers struct {
	counts []api.Change
	fronts [][]api.Time
	open   []bool
}

func answersOf(v *View) answers {
	a := answers{counts: v.Counts()}
	for place := -1; place <= 192; place++ {
		a.fronts = append(a.fronts, v.Front(place))
		for _, u := range []api.Time{at(), at(1, 2), at(4), at(last, last, last)} {
			a.open = append(a.open, v.Open(place, u))
		}
	}
	return a
}

func (a answers) copied() answers {
	fronts := a.fronts
	a.counts, a.fronts, a.open = slices.Clone(a.counts), nil, slices.Clone(a.open)
	for _, l := range fronts {
		a.fronts = append(a.fronts, slices.Clone(l))
	}
	return a
}

func (a answers) same(b answers) bool {
	return slices.Equal(a.counts, b.counts) && slices.EqualFunc(a.fronts, b.fronts, slices.Equal) && slices.Equal(a.open, b.open)
}

// spoil writes over all lists, grows them, and writes over the room behind them.
func (a answers) spoil() {
	spoiled(a.counts, ch(-9, 9, 9, 9, 9))
	for _, l := range a.fronts {
		spoiled(l, at(9, 9, 9))
	}
}

func spoiled[T any](l []T, with T) {
	grown := append(l, with)
	for _, m := range [][]T{l[:cap(l)], grown[:cap(grown)]} {
		for i := range m {
			m[i] = with
		}
	}
}

// acted is one behind an act and a hearing.
func acted(t *testing.T) *View {
	v := begin(t, round(), 3)
	owns(t, v, ch(0, -1, 0), ch(0, 1, 4), ch(3, -1, 0))
	hears(t, v, ch(1, 2, 2), ch(6, 1, 1))
	return v
}

// several are some new ones, and some behind acts and hearings.
func several(t *testing.T) []*View {
	wide := begin(t, forked(), 8)
	hears(t, wide, ch(0, 1, 2, 7), ch(0, 1, 7, 2), ch(2, -2, 0, 0))
	hears(t, wide, ch(0, 3, 4, 4), ch(1, 1, 3, 3))
	row := begin(t, doubling(6), 2)
	owns(t, row, ch(0, 1, 1, 1), ch(5, 1, 0, 99))
	return []*View{begin(t, api.Graph{Arity: 2}, 1), begin(t, round(), 8), acted(t), wide, row, begin(t, greatest(), 8)}
}

func isNobody(t *testing.T, v *View) {
	t.Helper()
	for _, l := range [][]api.Change{nil, {ch(0, 1, 0)}, {ch(-1, 1, 0)}, {ch(0, most+1, 0)}} {
		owns(t, v, l...)
		counts(t, v)
	}
	for _, b := range [][]byte{nil, {0}, {1}, {1, 0xC0, 1, 0, 0, 0, 2}, put(t, ch(0, 1, 0)), put(t, ch(191, most, last))} {
		if err := v.Hear(b); err != nil {
			t.Errorf("Hear(% x) = %v", b, err)
		}
		counts(t, v)
	}
	for _, place := range []int{0, 1, -1, 191, math.MaxInt, math.MinInt} {
		fronts(t, v, place)
		opens(t, v, place, false, at(), at(last, last, last))
	}
	if v.Copy() != nil {
		t.Error("the copy of a nil one isn't nil")
	}
}

func TestANilOne(t *testing.T) { // P1
	isNobody(t, nil)
	// What New answers beside an error may be asked, too.
	v, _ := New(nil, 1)
	isNobody(t, v)
	v, _ = New(made(t, line()), 0)
	isNobody(t, v)
}

func TestOneThatNewDidNotMake(t *testing.T) { // P1: no answer of it is promised, but that each call ends without a panic
	for _, v := range []*View{{}, new(View).Copy(), new(View)} {
		v.Own(nil)
		v.Own([]api.Change{ch(0, 1, 0), ch(-1, most+1, 0)})
		for _, b := range [][]byte{nil, {0}, {1}, put(t, ch(0, 1, 0))} {
			v.Hear(b)
		}
		answersOf(v).spoil()
		answersOf(v.Copy()).spoil()
	}
}

func TestWhatIsToldIsNewMemory(t *testing.T) { // P2, P3
	for i, v := range several(t) {
		one := answersOf(v)
		kept := one.copied()
		two := answersOf(v)
		one.spoil()
		if !two.same(kept) {
			t.Errorf("%d: an answer that is written over is seen in another one", i)
		}
		if !answersOf(v).same(kept) {
			t.Errorf("%d: asked again, it is told otherwise", i)
		}
		// Nor does it see what comes later.
		later := answersOf(v)
		for _, c := range kept.counts {
			hears(t, v, api.Change{S: c.S, N: -c.N})
		}
		counts(t, v)
		if !later.same(kept) {
			t.Errorf("%d: an answer saw a later change", i)
		}
		// What was written over is nothing that comes again.
		owns(t, v, kept.counts...)
		if !answersOf(v).same(kept) {
			t.Errorf("%d: gone and come again, it is told otherwise", i)
		}
	}
}

func TestOneListByItself(t *testing.T) { // P2
	v := begin(t, forked(), 2)
	hears(t, v, ch(0, 1, 2, 2), ch(2, 1, 0, 9))
	spoiled(v.Front(2)[:1], at(7, 7))
	fronts(t, v, 2, at(0, 9), at(2, 3), at(3, 2))
	fronts(t, v, 1, at(2, 3), at(3, 2))
	spoiled(v.Counts()[:1], ch(7, 7, 7))
	counts(t, v, ch(0, 1, 2, 2), ch(2, 1, 0, 9))
	hears(t, v, ch(0, -1, 2, 2))
	fronts(t, v, 1)
	fronts(t, v, 2, at(0, 9))
}

func TestAFaultIsNewMemory(t *testing.T) { // P2
	v := begin(t, line(), 1)
	f, ok := v.Hear([]byte{1, 0}).(*batch.Fault)
	if !ok {
		t.Fatal("no fault")
	}
	*f = batch.Fault{At: 77, Err: api.ErrRest}
	faulty(t, v, batch.Fault{At: 2, Err: api.ErrShort}, 1, 0)
}

func TestAListHandedInStaysAsItWas(t *testing.T) { // P2
	room := []api.Change{ch(6, 1, 3), ch(0, 2, 4), ch(6, -1, 3), ch(0, 1, 1), ch(9, 9, 9), ch(8, 8, 8)}
	was := slices.Clone(room)
	v := begin(t, round(), 2)
	for many := range len(room) + 1 {
		e := v.Own(room[:many])
		if !slices.Equal(room, was) || (e == api.OK) != (many <= 4) {
			t.Fatalf("of %d changes: %d, they are %v", many, e, room)
		}
	}
	full := begin(t, round(), 2)
	owns(t, full, ch(0, most, 4))
	refuses(t, full, api.ErrRange, room[:4]...)
	if !slices.Equal(room, was) {
		t.Errorf("they are %v", room)
	}
	// They are not kept.
	kept := answersOf(v)
	clear(room)
	if !answersOf(v).same(kept) {
		t.Error("a list that is written over is seen")
	}
	// Counts, handed in and written over, is a list as any other one.
	l := v.Counts()
	owns(t, v, l...)
	clear(l)
	counts(t, v, ch(0, 4, 0), ch(0, 2, 1), ch(0, 12, 4), ch(6, 4, 3))
}

func TestBytesHandedInStayAsTheyWere(t *testing.T) { // P2
	form := put(t, ch(0, -1, 0), ch(0, 1, 300), ch(6, -3, 5))
	room := append(bytes.Clone(form), 7, 7, 7)
	was := bytes.Clone(room)
	v := begin(t, round(), 2)
	for many := range len(room) + 1 {
		err := v.Hear(room[:many])
		if !bytes.Equal(room, was) || (err == nil) != (many == 0 || many == len(form)) {
			t.Fatalf("of %d bytes: %v, they are % x", many, err, room)
		}
	}
	// Nor where the counts refuse them.
	other := begin(t, line(), 2)
	if err := other.Hear(room[:len(form)]); err != api.ErrPlace || !bytes.Equal(room, was) {
		t.Errorf("%v, they are % x", err, room)
	}
	// They are not kept.
	kept := answersOf(v)
	clear(room)
	if !answersOf(v).same(kept) {
		t.Error("bytes that are written over are seen")
	}
	counts(t, v, ch(0, 1, 0), ch(0, 1, 300), ch(6, -3, 5))
}

// looks is what a graph tells of itself.
func looks(g *graph.Graph) []any {
	l := []any{g.Raw(), g.Arity(), g.Nodes(), g.Places()}
	for node := range g.Nodes() {
		l = append(l, g.Conns(node))
	}
	for place := range g.Places() {
		node, port, in := g.Of(place)
		l = append(l, node, port, in, slices.Collect(g.Edges(place)))
	}
	return l
}

func TestTheGraphStaysAsItWas(t *testing.T) { // P2, P5
	for i, raw := range []api.Graph{{Arity: 2}, line(), round(), forked(), doubling(6), doubling(7), greatest()} {
		raw = draws.Roomy(raw)
		was := draws.Spare(raw)
		g := made(t, raw)
		looked := looks(g)
		v, _ := New(g, 3)
		other, _ := New(g, 3)
		kept := answersOf(other)
		v.Own([]api.Change{ch(0, 1, 1)})
		v.Hear(put(t, ch(1, -1, 1)))
		answersOf(v).spoil()
		if !reflect.DeepEqual(looks(g), looked) || !reflect.DeepEqual(draws.Spare(raw), was) {
			t.Errorf("graph %d is changed", i)
		}
		// Two of one graph have nothing to do with each other.
		if !answersOf(other).same(kept) {
			t.Errorf("graph %d: what is done to one is seen in another", i)
		}
	}
}

func TestTwoOfUnlikeGraphs(t *testing.T) { // P5
	one, other := begin(t, round(), 2), begin(t, line(), 5)
	owns(t, one, ch(6, 1, 3))
	counts(t, other, ch(0, 5, 0))
	hears(t, other, ch(0, -5, 0), ch(1, 1, 9))
	counts(t, one, ch(0, 2, 0), ch(6, 1, 3))
	counts(t, other, ch(1, 1, 9))
	all(t, one, 0, 0, 1, 0, 1, 0, 0)
	all(t, other, -1, 9)
	hearsNot(t, other, api.ErrPlace, ch(6, -1, 3))
	hears(t, one, ch(6, -1, 3))
}

func TestCopyAndThenCalls(t *testing.T) { // P17.5, P5
	lists := [][]api.Change{nil, {ch(0, 1, 0)}, {ch(0, -1, 4), ch(0, 1, 9)}, {ch(1, -2, 2), ch(3, 2, 0)}, {ch(6, -1, 1)}, {ch(4, -1, 3), ch(5, 1, 1)}, {ch(0, -2, 0), ch(0, -1, 4), ch(1, -2, 2), ch(3, 1, 0), ch(6, -1, 1)}, {ch(7, 1, 0)}, {ch(0, most, 0)}}
	done := func(v *View, l []api.Change, heard bool) {
		if heard {
			v.Hear(put(t, l...))
		} else {
			v.Own(l)
		}
	}
	behind := func(l []api.Change, heard bool) answers {
		v := acted(t)
		done(v, l, heard)
		return answersOf(v)
	}
	for i, one := range lists {
		for j, other := range lists {
			v := acted(t)
			c := v.Copy()
			if c == v || !answersOf(c).same(answersOf(v)) {
				t.Fatal("the copy tells something else")
			}
			done(v, one, i%2 == 0)
			if !answersOf(c).same(answersOf(acted(t))) {
				t.Errorf("the copy saw %v", one)
			}
			done(c, other, j%2 == 1)
			if !answersOf(v).same(behind(one, i%2 == 0)) || !answersOf(c).same(behind(other, j%2 == 1)) {
				t.Errorf("behind %v and %v: they saw one another", one, other)
			}
		}
	}
}

func TestCopiesOfCopies(t *testing.T) { // P17.5, P5
	v := begin(t, line(), 4)
	c := v.Copy()
	d := c.Copy()
	hears(t, v, ch(0, -4, 0), ch(0, 4, 1))
	owns(t, c, ch(0, -4, 0), ch(0, 4, 2))
	f := c.Copy()
	hears(t, d, ch(1, -1, 7))
	owns(t, f, ch(0, -4, 2))
	counts(t, v, ch(0, 4, 1))
	counts(t, c, ch(0, 4, 2))
	counts(t, d, ch(0, 4, 0), ch(1, -1, 7))
	counts(t, f)
	all(t, v, 1, 1)
	all(t, c, 2, 2)
	all(t, d, 0, 0)
	all(t, f, -1, -1)
	for _, x := range []*View{v, c, d, f} {
		hearsNot(t, x, api.ErrPlace, ch(2, 1, 0))
		hearsNot(t, x, api.ErrArity, ch(0, 1, 0, 1))
		refuses(t, x, api.ErrRange, ch(0, most+1, 0))
		faulty(t, x, batch.Fault{At: 0, Err: api.ErrForm}, 0)
	}
}

func TestAnswersOfACopyAreItsOwn(t *testing.T) { // P17.5, P2
	for _, v := range several(t) {
		kept := answersOf(v)
		c := v.Copy().Copy()
		if !answersOf(c).same(kept) {
			t.Error("the copy tells something else")
		}
		answersOf(c).spoil()
		answersOf(v).spoil()
		if !answersOf(v).same(kept) || !answersOf(c).same(kept) {
			t.Error("answers of the copy are memory of the one or the other")
		}
	}
}

func TestManyAskAtOnce(t *testing.T) { // P3, P5
	for _, v := range several(t) {
		kept := answersOf(v)
		var group sync.WaitGroup
		for range 8 {
			group.Go(func() {
				c := v.Copy()
				if !answersOf(v).same(kept) || !answersOf(c).same(kept) {
					t.Error("many who ask are told otherwise")
				}
				// Copies share nothing that a call touches.
				for _, x := range kept.counts {
					owns(t, c, api.Change{S: x.S, N: -x.N})
					hears(t, c, x)
				}
			})
		}
		group.Wait()
		if !answersOf(v).same(kept) {
			t.Error("what was done to the copies is seen")
		}
	}
}
