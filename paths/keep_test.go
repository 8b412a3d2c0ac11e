package paths

import (
	"math"
	"reflect"
	"slices"
	"sync"
	"testing"

	"sluice/api"
	"sluice/draws"
	"sluice/graph"
)

// answers are what a table tells: of all pairs of places, and of some that are none.
type answers struct {
	places int
	least  [][]api.Path
	to     [][]int
	fronts [][]api.Time
	could  []bool
}

func told(x *Table) answers {
	a := answers{places: x.Places()}
	var l []api.Stamp
	for p := -1; p <= x.Places(); p++ {
		l = append(l, stamped(p, 3, 1), stamped(p, 1, 3), stamped(p, most-1, 0))
	}
	for p := -1; p <= x.Places(); p++ {
		a.to = append(a.to, x.To(p))
		a.fronts = append(a.fronts, x.Front(p), x.Front(p, l...), x.Front(p, l[len(l)/2:]...))
		for q := -1; q <= x.Places(); q++ {
			a.least = append(a.least, x.Least(p, q))
			a.could = append(a.could, x.Could(stamped(p, 1, 1), stamped(q, 2, 1)), x.Could(stamped(p, most, 1), stamped(q, most, most)))
		}
	}
	return a
}

func (a answers) copied() answers {
	a.least, a.to, a.fronts, a.could = deep(a.least), deep(a.to), deep(a.fronts), slices.Clone(a.could)
	return a
}

func (a answers) same(b answers) bool {
	return a.places == b.places && slices.EqualFunc(a.least, b.least, slices.Equal) && slices.EqualFunc(a.to, b.to, slices.Equal) && slices.EqualFunc(a.fronts, b.fronts, slices.Equal) && slices.Equal(a.could, b.could)
}

// spoil writes over all lists, grows them, and writes over the room behind them.
func (a answers) spoil() {
	spoiled(a.least, by(9, 9, 9))
	spoiled(a.to, -9)
	spoiled(a.fronts, at(9, 9, 9))
}

func spoiled[T any](lists [][]T, with T) {
	for _, l := range lists {
		grown := append(l, with)
		for _, m := range [][]T{l[:cap(l)], grown[:cap(grown)]} {
			for i := range m {
				m[i] = with
			}
		}
	}
}

func deep[T any](lists [][]T) [][]T {
	var c [][]T
	for _, l := range lists {
		c = append(c, slices.Clone(l))
	}
	return c
}

// several are graphs that may be.
func several() []api.Graph {
	return []api.Graph{{Arity: 2}, round(), beside(), doubling(6), wide(by(40))}
}

// looks is what a graph tells of itself.
func looks(g *graph.Graph) []any {
	l := []any{g.Raw(), g.Arity(), g.Nodes(), g.Places()}
	for node := range g.Nodes() {
		l = append(l, g.Conns(node))
	}
	for place := range g.Places() {
		node, port, in := g.Of(place)
		l = append(l, node, port, in, slices.Collect(g.Edges(place)))
	}
	return l
}

func TestANilTable(t *testing.T) { // P1
	var x *Table
	for _, p := range []int{0, 1, -1, math.MaxInt, math.MinInt} {
		leads(t, x, p, p)
		comesTo(t, x, p)
		could(t, x, stamped(p), stamped(p), false)
		fronted(t, x, p, nil)
		fronted(t, x, p, []api.Stamp{stamped(p), stamped(0, 1)})
	}
	if x.Places() != 0 {
		t.Errorf("Places = %d", x.Places())
	}
}

func TestAskedTwice(t *testing.T) { // P11.7, P2, P3
	for i, raw := range several() {
		x := tabled(t, "several", raw)
		one := told(x)
		kept := one.copied()
		two := told(x)
		one.spoil()
		if !two.same(kept) {
			t.Errorf("graph %d: an answer that is written over is seen in another one", i)
		}
		if three := told(x); !three.same(kept) {
			t.Errorf("graph %d: asked again, it is told otherwise", i)
		}
	}
}

func TestEachListByItself(t *testing.T) { // P11.7, P2
	x := tabled(t, "row", doubling(6))
	l := x.Least(0, 11)
	spoiled([][]api.Path{l[:32]}, by(7))
	leads(t, x, 0, 11, falling(64)...)
	leads(t, x, 0, 9, falling(32)...)
	m := x.To(0)
	spoiled([][]int{m}, -7)
	comesTo(t, x, 0, 0, 1, 2, 3, 4, 5, 6, 7, 8, 9, 10, 11)
	f := x.Front(11, stamped(0))
	spoiled([][]api.Time{f[:7]}, at(7))
	leads(t, x, 0, 11, falling(64)...)
	if g := x.Front(11, stamped(0)); !slices.Equal(asPaths(g), falling(64)) {
		t.Errorf("Front = %v", g)
	}
}

func TestTheGraphStaysAsItWas(t *testing.T) { // P11.7, P2
	for i, raw := range several() {
		raw = draws.Roomy(raw)
		was := draws.Spare(raw)
		g := made(t, "several", raw)
		looked := looks(g)
		x, _ := New(g)
		told(x).spoil()
		if !reflect.DeepEqual(looks(g), looked) || !reflect.DeepEqual(draws.Spare(raw), was) {
			t.Errorf("graph %d is changed", i)
		}
		// Another table of the same graph.
		y, _ := New(g)
		if !told(y).same(told(x)) {
			t.Errorf("graph %d: the second table is another one", i)
		}
	}
	for _, raw := range []api.Graph{doubling(7), {Arity: 1, Nodes: maps(1), Edges: edges([2]int{0, 0})}} {
		g := made(t, "refused", raw)
		looked := looks(g)
		if x, e := New(g); x != nil || e == api.OK || !reflect.DeepEqual(looks(g), looked) {
			t.Errorf("New = %v, %d, or the graph is changed: %v", x, e, raw)
		}
	}
}

func TestTheStampsStayAsTheyWere(t *testing.T) { // P2
	x := tabled(t, "round", round())
	room := []api.Stamp{stamped(5, 3, 1), stamped(0, 2, 5), stamped(-1), stamped(0, 2, 5), stamped(9, 9, 9), stamped(8, 8)}
	was := slices.Clone(room)
	for many := range len(room) {
		l := room[:many]
		front := x.Front(3, l...)
		spoiled([][]api.Time{front}, at(7))
		if !slices.Equal(room, was) {
			t.Fatalf("of %d stamps: they are %v", many, room)
		}
	}
	// What stood in them is not kept.
	l := slices.Clone(was[:2])
	front := x.Front(3, l...)
	l[0], l[1] = stamped(4), stamped(4)
	if !slices.Equal(front, []api.Time{at(2, 5), at(3, 1)}) {
		t.Errorf("Front = %v", front)
	}
}

func TestTwoTablesHaveNothingToDoWithEachOther(t *testing.T) { // P3, P5
	var tables []*Table
	var kept []answers
	for _, raw := range several() {
		x := tabled(t, "several", raw)
		tables, kept = append(tables, x), append(kept, told(x).copied())
	}
	for i := range tables {
		for j := range tables {
			told(tables[i]).spoil()
			if !told(tables[j]).same(kept[j]) {
				t.Errorf("table %d is told otherwise behind table %d", j, i)
			}
		}
	}
	for i, raw := range several() {
		if !told(tabled(t, "several", raw)).same(kept[i]) {
			t.Errorf("table %d, made again, is told otherwise", i)
		}
	}
}

func TestTheOrderOfEdgesAndConnectionsPlaysNoPart(t *testing.T) { // P3
	for seed := range 300 {
		next := draws.Numbers(uint64(seed))
		raw := draws.Advancing(next, 9, 14)
		kept := told(tabled(t, "drawn", raw))
		raw.Edges = draws.Mixed(raw.Edges, next)
		for i, n := range raw.Nodes {
			raw.Nodes[i].Conns = draws.Mixed(n.Conns, next)
		}
		if !told(tabled(t, "mixed", raw)).same(kept) {
			t.Fatalf("seed %d: it is told otherwise: %v", seed, raw)
		}
	}
}

func TestTheOrderOfStampsPlaysNoPart(t *testing.T) { // P3, P11.4
	x := tabled(t, "row", doubling(6))
	next := draws.Numbers(5)
	for range 300 {
		var l []api.Stamp
		for range next(9) {
			l = append(l, stamped(next(12), uint64(next(90)), uint64(next(90))))
		}
		front := x.Front(11, l...)
		if other := x.Front(11, draws.Mixed(append(l, l...), next)...); !slices.Equal(other, front) {
			t.Fatalf("Front(11, %v) = %v, in another order %v", l, front, other)
		}
	}
}

func TestManyAskAtOnce(t *testing.T) { // P3
	for _, raw := range several() {
		g := made(t, "several", raw)
		x, _ := New(g)
		kept := told(x)
		var all sync.WaitGroup
		for range 8 {
			all.Go(func() {
				own, _ := New(g)
				if !told(x).same(kept) || !told(own).same(kept) {
					t.Error("many who ask are told otherwise")
				}
			})
		}
		all.Wait()
	}
}
