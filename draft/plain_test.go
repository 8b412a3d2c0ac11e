package draft

import (
	"math"
	"reflect"
	"slices"

	"sluice/api"
	"sluice/wire"
)

// The parts of a graph's bytes.
const (
	arity = iota
	kind
	number // any uint64
	whole  // an int
	truth
	nodes // how many
	edges
	ops
	conns
)

// part is one number or truth of a graph's bytes.
type part struct {
	what int
	v    uint64
}

// form is its bytes.
func (p part) form() []byte {
	if p.what == truth {
		return []byte{byte(p.v)}
	}
	w := wire.NewWriter()
	w.Num(p.v)
	return w.Data()
}

// forms is the bytes of several.
func forms(l []part) []byte {
	var b []byte
	for _, p := range l {
		b = append(b, p.form()...)
	}
	return b
}

// parts is what a graph is laid as, by the chapter's section 'Words'. It must have the form.
func parts(g api.Graph) []part {
	l := []part{{arity, uint64(g.Arity)}, {nodes, uint64(len(g.Nodes))}}
	for _, n := range g.Nodes {
		l = append(l, part{kind, uint64(n.Kind)})
		switch n.Kind {
		case api.KMap, api.KFilter:
			l = append(l, part{ops, uint64(len(n.Code))})
			for _, o := range n.Code {
				l = append(l, part{whole, uint64(o.Kind)}, part{number, o.Arg})
			}
		case api.KLoop:
			l = append(l, part{number, n.Bound}, part{number, n.By.A}, part{number, n.By.B}, part{number, n.By.C})
		case api.KFree:
			l = append(l, truthPart(n.Start), part{conns, uint64(len(n.Conns))})
			for _, c := range n.Conns {
				l = append(l, part{whole, uint64(c.In)}, part{whole, uint64(c.Out)}, part{number, c.By.A}, part{number, c.By.B}, part{number, c.By.C})
			}
			l = append(l, part{whole, uint64(n.Outs)}, part{whole, uint64(n.Ins)})
		case api.KJoin:
			l = append(l, part{whole, uint64(n.Ins)})
		}
	}
	l = append(l, part{edges, uint64(len(g.Edges))})
	for _, d := range g.Edges {
		l = append(l, part{whole, uint64(d.From)}, part{whole, uint64(d.Out)}, part{whole, uint64(d.To)}, part{whole, uint64(d.In)}, truthPart(d.Keyed))
	}
	return l
}

func truthPart(is bool) part {
	if is {
		return part{truth, 1}
	}
	return part{truth, 0}
}

// plainPut is Put by the words of P8.1.
func plainPut(g api.Graph) ([]byte, api.Errno) {
	switch {
	case len(g.Nodes) > 24, len(g.Edges) > 48:
		return nil, api.ErrLong
	case g.Arity < 0:
		return nil, api.ErrArity
	}
	for _, n := range g.Nodes {
		if e := plainNode(n); e != api.OK {
			return nil, e
		}
	}
	for _, d := range g.Edges {
		if min(d.From, d.Out, d.To, d.In) < 0 {
			return nil, api.ErrEdge
		}
	}
	return forms(parts(g)), api.OK
}

// portsAsTold tells whether a node's ports may be, by the chapter's words.
func portsAsTold(n api.Node) bool {
	switch n.Kind {
	case api.KInput:
		return n.Ins == 0 && n.Outs == 1
	case api.KProbe:
		return n.Ins == 1 && n.Outs == 0
	case api.KJoin:
		return n.Ins >= 0 && n.Outs == 1
	case api.KFree:
		return n.Ins >= 0 && n.Outs >= 0
	}
	return n.Ins == 1 && n.Outs == 1
}

// plainNode is what P8.1 says of a node.
func plainNode(n api.Node) api.Errno {
	if !slices.Contains([]int{1, 2, 3, 4, 5, 6, 7, 8}, n.Kind) {
		return api.ErrKind
	}
	if !portsAsTold(n) {
		return api.ErrPorts
	}
	code, loop, free := n.Kind == api.KMap || n.Kind == api.KFilter, n.Kind == api.KLoop, n.Kind == api.KFree
	if !code && len(n.Code) > 0 || !loop && (n.By != api.Path{} || n.Bound > 0) || !free && (n.Start || len(n.Conns) > 0) {
		return api.ErrField
	}
	if len(n.Code) > 16 || len(n.Conns) > 16 {
		return api.ErrLong
	}
	for _, o := range n.Code {
		if o.Kind < 0 {
			return api.ErrCode
		}
	}
	for _, c := range n.Conns {
		if c.In < 0 || c.Out < 0 {
			return api.ErrConn
		}
	}
	return api.OK
}

// plainGetter is Get by the words of P8.2: it goes through the bytes, and behind a fault does no more.
type plainGetter struct {
	b  []byte
	at int
	e  api.Errno
}

func (p *plainGetter) fault(e api.Errno, at int) {
	if p.e == api.OK {
		p.e, p.at = e, at
	}
}

// take is a part of that sort.
func (p *plainGetter) take(what int) uint64 {
	if p.e != api.OK {
		return 0
	}
	if what == truth {
		return p.takeTruth()
	}
	at, r := p.at, wire.NewReader(p.b[p.at:])
	v := r.Num(math.MaxUint64)
	if e := r.Err(); e != api.OK {
		p.fault(e, at)
		return 0
	}
	p.at += r.At()
	return p.allowed(what, v, at)
}

func (p *plainGetter) takeTruth() uint64 {
	switch {
	case p.at == len(p.b):
		p.fault(api.ErrShort, p.at)
	case p.b[p.at] > 1:
		p.fault(api.ErrForm, p.at)
	default:
		p.at++
		return uint64(p.b[p.at-1])
	}
	return 0
}

// allowed is the number, or the fault that one of that sort is.
func (p *plainGetter) allowed(what int, v uint64, at int) uint64 {
	most := map[int]uint64{nodes: 24, edges: 48, ops: 16, conns: 16, kind: 8, number: math.MaxUint64}
	m, told := most[what]
	if !told {
		m = math.MaxInt64
	}
	e := api.ErrRange
	if what >= nodes {
		e = api.ErrLong
	} else if what == kind {
		e = api.ErrKind
	}
	if v > m || what == kind && v == 0 {
		p.fault(e, at)
		return 0
	}
	return v
}

func (p *plainGetter) path() api.Path {
	return api.Path{A: p.take(number), B: p.take(number), C: p.take(number)}
}

func (p *plainGetter) node() api.Node {
	n := api.Node{Kind: int(p.take(kind))}
	switch n.Kind {
	case api.KInput:
		n.Outs = 1
	case api.KProbe:
		n.Ins = 1
	case api.KMap, api.KFilter:
		n.Ins, n.Outs = 1, 1
		for range p.take(ops) {
			n.Code = append(n.Code, api.Op{Kind: int(p.take(whole)), Arg: p.take(number)})
		}
	case api.KSum:
		n.Ins, n.Outs = 1, 1
	case api.KLoop:
		n.Ins, n.Outs = 1, 1
		n.Bound = p.take(number)
		n.By = p.path()
	case api.KFree:
		n.Start = p.take(truth) == 1
		for range p.take(conns) {
			n.Conns = append(n.Conns, api.Conn{In: int(p.take(whole)), Out: int(p.take(whole)), By: p.path()})
		}
		n.Outs = int(p.take(whole))
		n.Ins = int(p.take(whole))
	case api.KJoin:
		n.Ins, n.Outs = int(p.take(whole)), 1
	}
	return n
}

func plainGet(b []byte) (api.Graph, api.Errno, int) {
	p := &plainGetter{b: b}
	g := api.Graph{Arity: int(p.take(arity))}
	for range p.take(nodes) {
		g.Nodes = append(g.Nodes, p.node())
	}
	for range p.take(edges) {
		g.Edges = append(g.Edges, api.Edge{From: int(p.take(whole)), Out: int(p.take(whole)), To: int(p.take(whole)), In: int(p.take(whole)), Keyed: p.take(truth) == 1})
	}
	if p.e == api.OK && p.at < len(b) {
		p.fault(api.ErrRest, p.at)
	}
	if p.e != api.OK {
		return api.Graph{}, p.e, p.at
	}
	return g, api.OK, 0
}

// same tells whether two graphs are the same; a list that is empty may be nil.
func same(g, h api.Graph) bool { return reflect.DeepEqual(cloned(g), cloned(h)) }

// cloned is the graph in memory of its own, with nil for lists that are empty.
func cloned(g api.Graph) api.Graph {
	c := api.Graph{Arity: g.Arity, Edges: append([]api.Edge(nil), g.Edges...)}
	for _, n := range g.Nodes {
		n.Code = append([]api.Op(nil), n.Code...)
		n.Conns = append([]api.Conn(nil), n.Conns...)
		c.Nodes = append(c.Nodes, n)
	}
	return c
}
