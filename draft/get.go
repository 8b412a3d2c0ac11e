package draft

import (
	"math"

	"sluice/api"
	"sluice/wire"
)

// taker takes the parts of a graph off some bytes, and gives up at the first that isn't there or may not be.
type taker struct{ r *wire.Reader }

// graph takes all of it, and nothing may be left.
func (t taker) graph() api.Graph {
	var g api.Graph
	g.Arity = t.int()
	g.Nodes = takeList(t, api.MaxNodes, t.node)
	g.Edges = takeList(t, api.MaxEdges, t.edge)
	t.r.End()
	t.look()
	return g
}

func (t taker) node() api.Node {
	n := api.Node{Kind: t.kind()}
	n.Ins, n.Outs = ownPorts(n.Kind)
	switch n.Kind {
	case api.KMap, api.KFilter:
		n.Code = takeList(t, api.MaxCode, t.op)
	case api.KLoop:
		n.Bound = t.num()
		n.By = t.path()
	case api.KFree:
		n.Start = t.truth()
		n.Conns = takeList(t, api.MaxConns, t.conn)
		n.Outs = t.int()
		fallthrough
	case api.KJoin:
		n.Ins = t.int()
	}
	return n
}

func (t taker) kind() int {
	at := t.r.At()
	kind := int(t.upTo(api.KFree, api.ErrKind))
	if kind < api.KInput {
		giveUp(api.ErrKind, at)
	}
	return kind
}

// In the literals below the calls go from left to right, as the form does.

func (t taker) op() api.Op { return api.Op{Kind: t.int(), Arg: t.num()} }

func (t taker) conn() api.Conn { return api.Conn{In: t.int(), Out: t.int(), By: t.path()} }

func (t taker) edge() api.Edge {
	return api.Edge{From: t.int(), Out: t.int(), To: t.int(), In: t.int(), Keyed: t.truth()}
}

func (t taker) path() api.Path { return api.Path{A: t.num(), B: t.num(), C: t.num()} }

func (t taker) truth() bool {
	at := t.r.At()
	b := t.r.Byte()
	t.look()
	if b > 1 {
		giveUp(api.ErrForm, at)
	}
	return b == 1
}

// num takes a number that may be any.
func (t taker) num() uint64 { return t.upTo(math.MaxUint64, api.ErrRange) }

// int takes a number that an int has room for.
func (t taker) int() int { return int(t.upTo(math.MaxInt64, api.ErrRange)) }

// upTo takes a number that is at most most; above is the error of one that isn't.
func (t taker) upTo(most uint64, above api.Errno) uint64 {
	v := t.r.Num(most)
	if t.r.Err() == api.ErrRange {
		giveUp(above, t.r.At())
	}
	t.look()
	return v
}

// look gives up where the last call of the reader met an error.
func (t taker) look() {
	if e := t.r.Err(); e != api.OK {
		giveUp(e, t.r.At())
	}
}

// takeList takes how many elements there are, then each. It grows as they come, since fewer may come than are told.
func takeList[T any](t taker, most uint64, one func() T) []T {
	var list []T
	for range t.upTo(most, api.ErrLong) {
		list = append(list, one())
	}
	return list
}
