package graph

import (
	"slices"

	"sluice/api"
	"sluice/path"
)

// kind is what the nodes of one kind may have.
type kind struct {
	ins, outs func(many int) bool                   // may there be so many ports?
	without   func(n api.Node) api.Node             // the node without the fields that the kind has
	flaw      func(n api.Node, arity int) api.Errno // what is wrong in those
	conns     func(n api.Node) []api.Conn
}

// kindOf is what a kind may have; false: there is no such kind. What isn't said otherwise has a port on each side, and no fields.
func kindOf(number int) (kind, bool) {
	k := kind{ins: just(1), outs: just(1), without: all, flaw: noFlaw, conns: across}
	switch number {
	case api.KInput:
		k.ins = just(0)
	case api.KMap, api.KFilter:
		k.without, k.flaw = withoutCode, codeFlaw
	case api.KJoin:
		k.ins = upFrom(1)
	case api.KLoop:
		k.without, k.flaw, k.conns = withoutBy, byFlaw, round
	case api.KSum:
	case api.KProbe:
		k.outs = just(0)
	case api.KFree:
		k.ins, k.outs = upFrom(0), upFrom(0)
		k.without, k.flaw, k.conns = withoutConns, connsFlaw, listed
	default:
		return kind{}, false
	}
	return k, true
}

func just(own int) func(int) bool {
	return func(many int) bool { return many == own }
}

func upFrom(least int) func(int) bool {
	return func(many int) bool { return many >= least && many <= api.MaxPorts }
}

func all(n api.Node) api.Node { return n }

func withoutCode(n api.Node) api.Node {
	n.Code = nil
	return n
}

func withoutBy(n api.Node) api.Node {
	n.By, n.Bound = api.Path{}, 0
	return n
}

func withoutConns(n api.Node) api.Node {
	n.Conns, n.Start = nil, false
	return n
}

func noFlaw(api.Node, int) api.Errno { return api.OK }

func codeFlaw(n api.Node, _ int) api.Errno {
	if len(n.Code) > api.MaxCode {
		return api.ErrCode
	}
	return api.OK
}

func byFlaw(n api.Node, arity int) api.Errno {
	if n.Bound > api.MaxBound || path.Fits(n.By, arity) != api.OK {
		return api.ErrField
	}
	return api.OK
}

func connsFlaw(n api.Node, arity int) api.Errno {
	if len(n.Conns) > api.MaxConns {
		return api.ErrConn
	}
	for i, c := range n.Conns {
		there := among(c.In, n.Ins) && among(c.Out, n.Outs)
		if !there || path.Fits(c.By, arity) != api.OK || slices.Contains(n.Conns[:i], c) {
			return api.ErrConn
		}
	}
	return api.OK
}

// across leads from each in-port to each out-port, if there are any, without going on in time.
func across(n api.Node) []api.Conn {
	var l []api.Conn
	for in := range n.Ins {
		for out := range n.Outs {
			l = append(l, api.Conn{In: in, Out: out})
		}
	}
	return l
}

func round(n api.Node) []api.Conn { return []api.Conn{{By: n.By}} }

func listed(n api.Node) []api.Conn { return copyOf(n.Conns) }
