package draft

import (
	"bytes"
	"math"
	"slices"
	"testing"

	"sluice/api"
	"sluice/draws"
)

// drawer draws graphs; odd says how often something may not be (0: never).
type drawer struct {
	next func(below int) int
	odd  int
}

func (d drawer) strange() bool { return d.odd > 0 && d.next(d.odd) == 0 }

func (d drawer) num() uint64 {
	v := uint64(d.next(1<<31))<<33 ^ uint64(d.next(1<<31))<<20 ^ uint64(d.next(1<<31))
	return []uint64{uint64(d.next(4)), uint64(d.next(300)), v, math.MaxUint64 - uint64(d.next(2)), v >> d.next(64)}[d.next(5)]
}

func (d drawer) int() int {
	if d.strange() {
		return []int{-1, -1, math.MinInt64, -int(d.num()>>1) - 1}[d.next(4)]
	}
	return int(d.num() &^ (1 << 63))
}

func (d drawer) many(most int) int {
	if d.strange() {
		return most + 1 + d.next(3)
	}
	return min(most, d.next(d.next(most+4)+1))
}

func (d drawer) path() api.Path { return api.Path{A: d.num(), B: d.num(), C: d.num()} }

func (d drawer) node() api.Node {
	n := api.Node{Kind: 1 + d.next(8)}
	n.Ins, n.Outs = 1, 1
	switch n.Kind {
	case api.KInput:
		n.Ins = 0
	case api.KProbe:
		n.Outs = 0
	case api.KJoin:
		n.Ins = d.int()
	case api.KFree:
		n.Ins, n.Outs = d.int(), d.int()
	}
	if d.strange() {
		n.Ins = d.next(5) - 1
	}
	if d.strange() {
		n.Outs = d.next(5) - 1
	}
	if n.Kind == api.KMap || n.Kind == api.KFilter || d.strange() {
		for range d.many(api.MaxCode) {
			n.Code = append(n.Code, api.Op{Kind: d.int(), Arg: d.num()})
		}
	}
	if n.Kind == api.KLoop || d.strange() {
		n.Bound, n.By = d.num(), d.path()
	}
	if n.Kind == api.KFree || d.strange() {
		n.Start = d.next(2) == 0
		for range d.many(api.MaxConns) {
			n.Conns = append(n.Conns, api.Conn{In: d.int(), Out: d.int(), By: d.path()})
		}
	}
	if d.strange() {
		n.Kind = d.next(12) - 1
	}
	return n
}

func (d drawer) graph() api.Graph {
	g := api.Graph{Arity: d.int()}
	for range d.many(api.MaxNodes) {
		g.Nodes = append(g.Nodes, d.node())
	}
	for range d.many(api.MaxEdges) {
		g.Edges = append(g.Edges, api.Edge{From: d.int(), Out: d.int(), To: d.int(), In: d.int(), Keyed: d.next(2) == 0})
	}
	return g
}

func TestPutAsTheWordsHaveIt(t *testing.T) { // P8.1, P8.3, P4
	next := draws.Numbers(81)
	often := map[api.Errno]int{}
	for round := range 20000 {
		d := drawer{next, []int{0, 10, 50, 300}[round%4]}
		g := d.graph()
		b, e := Put(g)
		want, f := plainPut(g)
		if e != f || !bytes.Equal(b, want) {
			t.Fatalf("Put(%v): % x, %d, want % x, %d", g, b, e, want, f)
		}
		if often[e]++; e == api.OK {
			back(t, b, g)
		}
	}
	for _, e := range []api.Errno{api.OK, api.ErrLong, api.ErrArity, api.ErrKind, api.ErrPorts, api.ErrField, api.ErrCode, api.ErrConn, api.ErrEdge} {
		if often[e] < 100 {
			t.Errorf("error %d came %d times only", e, often[e])
		}
	}
}

// getBoth reads some bytes by Get and by its words, and what it takes is put anew.
func getBoth(t *testing.T, b []byte) api.Errno {
	t.Helper()
	g, e, at := Get(b)
	want, f, place := plainGet(b)
	if e != f || at != place || !same(g, want) {
		t.Fatalf("Get(% x): %v, %d at %d, want %v, %d at %d", b, g, e, at, want, f, place)
	}
	if e == api.OK {
		if c, f := Put(g); f != api.OK || !bytes.Equal(b, c) {
			t.Fatalf("Get takes % x, of which Put answers % x, %d", b, c, f)
		}
	}
	return e
}

func TestGetOfChangedBytesAsTheWordsHaveIt(t *testing.T) { // P8.2, P8.3, P4
	next := draws.Numbers(82)
	often := map[api.Errno]int{}
	some := []byte{0, 1, 2, 7, 8, 9, 16, 17, 24, 25, 48, 49, 127, 128, 255}
	for range 3000 {
		form := forms(parts(drawer{next, 0}.graph()))
		for range 10 {
			b := bytes.Clone(form)
			for range 1 + next(2) {
				at := next(1 + next(len(b)+1))
				behind := min(len(b), at+next(2))
				more := []byte{some[next(len(some))], some[next(len(some))]}[:next(3)]
				b = slices.Concat(b[:at], more, b[behind:])
			}
			often[getBoth(t, b)]++
		}
	}
	for _, e := range []api.Errno{api.OK, api.ErrShort, api.ErrForm, api.ErrRange, api.ErrLong, api.ErrKind, api.ErrRest} {
		if often[e] < 20 {
			t.Errorf("error %d came %d times only", e, often[e])
		}
	}
}

func TestGetOfShortBytesAsTheWordsHaveIt(t *testing.T) { // P8.2, P8.3, P4
	some := []byte{0, 1, 2, 4, 8, 9, 128}
	var try func(b []byte)
	try = func(b []byte) {
		getBoth(t, b)
		if len(b) < 6 {
			for _, x := range some {
				try(append(bytes.Clone(b), x))
			}
		}
	}
	try(nil)
}
