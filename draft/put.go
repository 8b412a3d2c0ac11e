package draft

import (
	"sluice/api"
	"sluice/wire"
)

// layer lays the parts of a graph behind one another, and gives up at the first that hasn't the form.
type layer struct{ w *wire.Writer }

// graph lays all of it. Both lists are asked for their lengths ahead of all else.
func (l layer) graph(g api.Graph) {
	atMost(len(g.Nodes), api.MaxNodes)
	atMost(len(g.Edges), api.MaxEdges)
	l.int(g.Arity, api.ErrArity)
	layList(l, g.Nodes, l.node)
	layList(l, g.Edges, l.edge)
}

// node lays one; all that is asked of the node as a whole is asked ahead of its lists.
func (l layer) node(n api.Node) {
	if n.Kind < api.KInput || n.Kind > api.KFree {
		giveUp(api.ErrKind, 0)
	}
	if !portsMayBe(n) {
		giveUp(api.ErrPorts, 0)
	}
	if hasMore(n) {
		giveUp(api.ErrField, 0)
	}
	l.w.Num(uint64(n.Kind))
	switch n.Kind {
	case api.KMap, api.KFilter:
		atMost(len(n.Code), api.MaxCode)
		layList(l, n.Code, l.op)
	case api.KLoop:
		l.w.Num(n.Bound)
		l.path(n.By)
	case api.KFree:
		l.truth(n.Start)
		atMost(len(n.Conns), api.MaxConns)
		layList(l, n.Conns, l.conn)
		l.w.Num(uint64(n.Outs))
		fallthrough
	case api.KJoin:
		l.w.Num(uint64(n.Ins))
	}
}

func (l layer) op(o api.Op) {
	l.int(o.Kind, api.ErrCode)
	l.w.Num(o.Arg)
}

func (l layer) conn(c api.Conn) {
	l.int(c.In, api.ErrConn)
	l.int(c.Out, api.ErrConn)
	l.path(c.By)
}

func (l layer) edge(d api.Edge) {
	for _, n := range []int{d.From, d.Out, d.To, d.In} {
		l.int(n, api.ErrEdge)
	}
	l.truth(d.Keyed)
}

func (l layer) path(p api.Path) {
	l.w.Num(p.A)
	l.w.Num(p.B)
	l.w.Num(p.C)
}

func (l layer) truth(is bool) {
	b := byte(0)
	if is {
		b = 1
	}
	l.w.Byte(b)
}

// int lays a number that is 0 or above; below is the error of one that isn't.
func (l layer) int(n int, below api.Errno) {
	if n < 0 {
		giveUp(below, 0)
	}
	l.w.Num(uint64(n))
}

// layList lays how many elements there are, then each.
func layList[T any](l layer, list []T, lay func(T)) {
	l.w.Num(uint64(len(list)))
	for _, x := range list {
		lay(x)
	}
}

// atMost gives up where there are more than may be.
func atMost(many, most int) {
	if many > most {
		giveUp(api.ErrLong, 0)
	}
}

// portsMayBe tells whether a node has the ports of its kind, none below 0.
func portsMayBe(n api.Node) bool {
	ins, outs := ownPorts(n.Kind)
	return portsFit(n.Ins, ins) && portsFit(n.Outs, outs)
}

func portsFit(many, own int) bool {
	if own == laid {
		return many >= 0
	}
	return many == own
}

// hasMore tells whether anything is left of a node without its ports and what its kind lays.
func hasMore(n api.Node) bool {
	switch n.Kind {
	case api.KMap, api.KFilter:
		n.Code = nil
	case api.KLoop:
		n.Bound, n.By = 0, api.Path{}
	case api.KFree:
		n.Start, n.Conns = false, nil
	}
	return n.Start || n.Bound != 0 || n.By != api.Path{} || len(n.Code)+len(n.Conns) > 0
}
