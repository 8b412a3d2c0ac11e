package draft

import (
	"bytes"
	"math"
	"slices"
	"testing"

	"sluice/api"
)

// ordinary is a node of each kind as it may be, and so that nothing in it that is laid is 0.
func ordinary(kind int) api.Node {
	n := api.Node{Kind: kind, Ins: 1, Outs: 1}
	switch kind {
	case api.KInput:
		n.Ins = 0
	case api.KProbe:
		n.Outs = 0
	case api.KMap, api.KFilter:
		n.Code = []api.Op{{Kind: 3, Arg: 300}, {Kind: 2, Arg: 7}}
	case api.KLoop:
		n.Bound, n.By = 5, api.Path{A: 1, B: 2, C: 3}
	case api.KJoin:
		n.Ins = 3
	case api.KFree:
		n.Ins, n.Outs, n.Start = 4, 2, true
		n.Conns = []api.Conn{{In: 1, Out: 2, By: api.Path{A: 4, B: 5, C: 6}}, {In: 3, Out: 1, By: api.Path{A: 200, B: 1, C: 1}}}
	}
	return n
}

// kinds: all of api's.
func kinds() []int {
	return []int{api.KInput, api.KMap, api.KFilter, api.KJoin, api.KLoop, api.KSum, api.KProbe, api.KFree}
}

// all is a graph with each kind, and two edges.
func all() api.Graph {
	g := api.Graph{Arity: 2, Edges: []api.Edge{{From: 1, Out: 2, To: 3, In: 4, Keyed: true}, {From: 500, Out: 6, To: 700, In: 8}}}
	for _, k := range kinds() {
		g.Nodes = append(g.Nodes, ordinary(k))
	}
	return g
}

func one(n api.Node) api.Graph { return api.Graph{Arity: 1, Nodes: []api.Node{n}} }

// there lays a graph and reads it back.
func there(t *testing.T, g api.Graph) []byte {
	t.Helper()
	b, e := Put(g)
	if e != api.OK {
		t.Errorf("Put(%v): %d", g, e)
		return nil
	}
	back(t, b, g)
	return b
}

// back reads a graph that some bytes must be.
func back(t *testing.T, b []byte, want api.Graph) {
	t.Helper()
	g, e, at := Get(b)
	if e != api.OK || at != 0 || !same(g, want) {
		t.Errorf("Get(% x): %v, %d at %d, want %v", b, g, e, at, want)
	}
}

// refused: the bytes are no graph's.
func refused(t *testing.T, b []byte, e api.Errno, at int) {
	t.Helper()
	g, f, place := Get(b)
	if f != e || place != at || !same(g, api.Graph{}) {
		t.Errorf("Get(% x): %v, %d at %d, want %d at %d", b, g, f, place, e, at)
	}
}

// fails: the graph hasn't the form.
func fails(t *testing.T, g api.Graph, e api.Errno) {
	t.Helper()
	if b, f := Put(g); f != e || len(b) != 0 {
		t.Errorf("Put(%v): % x, %d, want %d", g, b, f, e)
	}
}

func TestExamples(t *testing.T) { // P8.1, P8.2, P8.3
	for _, c := range []struct {
		g    api.Graph
		form string
	}{
		{api.Graph{}, "\x00\x00\x00"},
		{api.Graph{Arity: 1}, "\x01\x00\x00"},
		{api.Graph{Arity: 2, Nodes: []api.Node{{Kind: api.KInput, Outs: 1}, {Kind: api.KProbe, Ins: 1}}, Edges: []api.Edge{{To: 1}}}, "\x02\x02\x01\x07\x01\x00\x00\x01\x00\x00"},
		{api.Graph{Arity: 1, Nodes: []api.Node{{Kind: api.KJoin, Ins: 3, Outs: 1}, {Kind: api.KLoop, Ins: 1, Outs: 1, Bound: 5, By: api.Path{A: 1}}}}, "\x01\x02\x04\x03\x05\x05\x01\x00\x00\x00"},
		{one(api.Node{Kind: api.KFree, Ins: 1, Outs: 2, Start: true, Conns: []api.Conn{{Out: 1}}}), "\x01\x01\x08\x01\x01\x00\x01\x00\x00\x00\x02\x01\x00"},
		{one(api.Node{Kind: api.KMap, Ins: 1, Outs: 1}), "\x01\x01\x02\x00\x00"},
	} {
		if b := there(t, c.g); string(b) != c.form {
			t.Errorf("Put(%v): % x, want % x", c.g, b, c.form)
		}
	}
}

func TestEachKind(t *testing.T) { // P8.1, P8.2, P8.3
	for kind, form := range map[int]string{
		api.KInput:  "\x01",
		api.KMap:    "\x02\x02\x03\xac\x02\x02\x07",
		api.KFilter: "\x03\x02\x03\xac\x02\x02\x07",
		api.KJoin:   "\x04\x03",
		api.KLoop:   "\x05\x05\x01\x02\x03",
		api.KSum:    "\x06",
		api.KProbe:  "\x07",
		api.KFree:   "\x08\x01\x02\x01\x02\x04\x05\x06\x03\x01\xc8\x01\x01\x01\x02\x04",
	} {
		if b := there(t, one(ordinary(kind))); string(b) != "\x01\x01"+form+"\x00" {
			t.Errorf("kind %d: % x, want % x", kind, b, form)
		}
	}
	want := "\x02\x08\x01\x02\x02\x03\xac\x02\x02\x07\x03\x02\x03\xac\x02\x02\x07\x04\x03\x05\x05\x01\x02\x03\x06\x07\x08\x01\x02\x01\x02\x04\x05\x06\x03\x01\xc8\x01\x01\x01\x02\x04\x02\x01\x02\x03\x04\x01\xf4\x03\x06\xbc\x05\x08\x00"
	if b := there(t, all()); string(b) != want {
		t.Errorf("% x, want % x", b, want)
	}
}

func TestKindsThatAreNone(t *testing.T) { // P8.1
	for _, kind := range []int{0, 9, 10, -1, 255, 1 << 8, 1<<8 + 1, 1<<32 + 1, math.MaxInt64, math.MinInt64, math.MinInt64 + 1} {
		fails(t, one(api.Node{Kind: kind}), api.ErrKind)
		fails(t, one(api.Node{Kind: kind, Ins: 1, Outs: 1}), api.ErrKind)
	}
}

func TestPortsOfEachKind(t *testing.T) { // P8.1, P8.3
	some := []int{0, 1, 2, 3, 4, 5, 99, math.MaxInt64, -1, -2, math.MinInt64}
	for _, kind := range kinds() {
		for _, ins := range some {
			for _, outs := range some {
				n := api.Node{Kind: kind, Ins: ins, Outs: outs}
				if portsAsTold(n) {
					there(t, one(n))
				} else {
					fails(t, one(n), api.ErrPorts)
				}
			}
		}
	}
}

// alien: of each field beside the kind and the ports, a change that makes it not zero, and the kinds that lay it.
func alien() []struct {
	set  func(n *api.Node)
	laid []int
} {
	code, loop, free := []int{api.KMap, api.KFilter}, []int{api.KLoop}, []int{api.KFree}
	return []struct {
		set  func(n *api.Node)
		laid []int
	}{
		{func(n *api.Node) { n.Code = []api.Op{{}} }, code},
		{func(n *api.Node) { n.Code = []api.Op{{Kind: 1, Arg: 1}, {}} }, code},
		{func(n *api.Node) { n.By = api.Path{A: 1} }, loop},
		{func(n *api.Node) { n.By = api.Path{B: 1} }, loop},
		{func(n *api.Node) { n.By = api.Path{C: math.MaxUint64} }, loop},
		{func(n *api.Node) { n.Bound = 1 }, loop},
		{func(n *api.Node) { n.Bound = math.MaxUint64 }, loop},
		{func(n *api.Node) { n.Conns = []api.Conn{{}} }, free},
		{func(n *api.Node) { n.Conns = []api.Conn{{Out: 1}, {In: 1}} }, free},
		{func(n *api.Node) { n.Start = true }, free},
	}
}

func TestFieldsOfWhichNothingIsLaid(t *testing.T) { // P8.1, P8.3
	for _, kind := range kinds() {
		for i, a := range alien() {
			n := ordinary(kind)
			a.set(&n)
			if slices.Contains(a.laid, kind) {
				there(t, one(n))
			} else if b, e := Put(one(n)); e != api.ErrField || len(b) != 0 {
				t.Errorf("kind %d, change %d: %d", kind, i, e)
			}
		}
	}
}

func TestEmptyListsAreNone(t *testing.T) { // P8.1, P8.3, P2
	for _, kind := range kinds() {
		n := ordinary(kind)
		n.Code, n.Conns = nil, nil
		m := n
		m.Code, m.Conns = []api.Op{}, make([]api.Conn, 0, 5)
		g := one(m)
		g.Edges = []api.Edge{}
		if b, c := there(t, one(n)), there(t, g); !bytes.Equal(b, c) {
			t.Errorf("kind %d: % x and % x", kind, b, c)
		}
	}
	if b := there(t, api.Graph{Arity: 1, Nodes: []api.Node{}, Edges: make([]api.Edge, 0, 9)}); string(b) != "\x01\x00\x00" {
		t.Errorf("% x", b)
	}
}

func TestLimitsOfLists(t *testing.T) { // P8.1, P8.3
	nodes := func(many int) api.Graph {
		return api.Graph{Nodes: slices.Repeat([]api.Node{ordinary(api.KSum)}, many)}
	}
	edges := func(many int) api.Graph { return api.Graph{Edges: make([]api.Edge, many)} }
	code := func(many int) api.Graph {
		return one(api.Node{Kind: api.KFilter, Ins: 1, Outs: 1, Code: make([]api.Op, many)})
	}
	conns := func(many int) api.Graph { return one(api.Node{Kind: api.KFree, Conns: make([]api.Conn, many)}) }
	for _, c := range []struct {
		of   func(many int) api.Graph
		most int
	}{{nodes, 24}, {edges, 48}, {code, 16}, {conns, 16}} {
		there(t, c.of(0))
		there(t, c.of(1))
		there(t, c.of(c.most-1))
		there(t, c.of(c.most))
		fails(t, c.of(c.most+1), api.ErrLong)
		fails(t, c.of(c.most+2), api.ErrLong)
		fails(t, c.of(c.most+256), api.ErrLong)
	}
	full := all()
	full.Nodes = slices.Repeat(full.Nodes, 3)
	full.Edges = slices.Repeat(full.Edges, 24)
	there(t, full)
}

// ints: of each int that is laid but a node's ports, a place to write one, and the error of one below 0.
func ints() []struct {
	set func(g *api.Graph, v int)
	e   api.Errno
} {
	return []struct {
		set func(g *api.Graph, v int)
		e   api.Errno
	}{
		{func(g *api.Graph, v int) { g.Arity = v }, api.ErrArity},
		{func(g *api.Graph, v int) { g.Nodes[1].Code[0].Kind = v }, api.ErrCode},
		{func(g *api.Graph, v int) { g.Nodes[1].Code[1].Kind = v }, api.ErrCode},
		{func(g *api.Graph, v int) { g.Nodes[2].Code[1].Kind = v }, api.ErrCode},
		{func(g *api.Graph, v int) { g.Nodes[7].Conns[0].In = v }, api.ErrConn},
		{func(g *api.Graph, v int) { g.Nodes[7].Conns[0].Out = v }, api.ErrConn},
		{func(g *api.Graph, v int) { g.Nodes[7].Conns[1].In = v }, api.ErrConn},
		{func(g *api.Graph, v int) { g.Nodes[7].Conns[1].Out = v }, api.ErrConn},
		{func(g *api.Graph, v int) { g.Nodes[3].Ins = v }, api.ErrPorts},
		{func(g *api.Graph, v int) { g.Nodes[7].Ins = v }, api.ErrPorts},
		{func(g *api.Graph, v int) { g.Nodes[7].Outs = v }, api.ErrPorts},
		{func(g *api.Graph, v int) { g.Edges[0].From = v }, api.ErrEdge},
		{func(g *api.Graph, v int) { g.Edges[0].Out = v }, api.ErrEdge},
		{func(g *api.Graph, v int) { g.Edges[0].To = v }, api.ErrEdge},
		{func(g *api.Graph, v int) { g.Edges[0].In = v }, api.ErrEdge},
		{func(g *api.Graph, v int) { g.Edges[1].From = v }, api.ErrEdge},
		{func(g *api.Graph, v int) { g.Edges[1].Out = v }, api.ErrEdge},
		{func(g *api.Graph, v int) { g.Edges[1].To = v }, api.ErrEdge},
		{func(g *api.Graph, v int) { g.Edges[1].In = v }, api.ErrEdge},
	}
}

func TestIntsThatAreLaid(t *testing.T) { // P8.1, P8.3
	for i, c := range ints() {
		for _, v := range []int{-1, -2, math.MinInt32, math.MinInt64, math.MinInt64 + 1} {
			g := all()
			c.set(&g, v)
			if b, e := Put(g); e != c.e || len(b) != 0 {
				t.Errorf("int %d is %d: %d, want %d", i, v, e, c.e)
			}
		}
		for _, v := range []int{0, 1, 127, 128, math.MaxInt32, math.MaxUint32 + 1, math.MaxInt64 - 1, math.MaxInt64} {
			g := all()
			c.set(&g, v)
			there(t, g)
		}
	}
}

func TestNumbersThatMayBeAny(t *testing.T) { // P8.1, P8.3
	for _, v := range []uint64{0, 1, 127, 128, math.MaxInt64, 1 << 63, math.MaxUint64 - 1, math.MaxUint64} {
		for _, set := range []func(g *api.Graph){
			func(g *api.Graph) { g.Nodes[1].Code[0].Arg = v },
			func(g *api.Graph) { g.Nodes[2].Code[1].Arg = v },
			func(g *api.Graph) { g.Nodes[4].Bound = v },
			func(g *api.Graph) { g.Nodes[4].By.A = v },
			func(g *api.Graph) { g.Nodes[4].By.B = v },
			func(g *api.Graph) { g.Nodes[4].By.C = v },
			func(g *api.Graph) { g.Nodes[7].Conns[0].By.A = v },
			func(g *api.Graph) { g.Nodes[7].Conns[1].By.B = v },
			func(g *api.Graph) { g.Nodes[7].Conns[1].By.C = v },
		} {
			g := all()
			set(&g)
			there(t, g)
		}
	}
}

func TestWhichErrorComesFirst(t *testing.T) { // P8.1, P4
	bad := []api.Edge{{}, {To: -1}}
	noKind := api.Node{Ins: -1, Start: true, Code: make([]api.Op, 17)}
	ports := api.Node{Kind: api.KMap, Ins: 1, Outs: 2, Start: true, Code: make([]api.Op, 17)}
	field := api.Node{Kind: api.KMap, Ins: 1, Outs: 1, Start: true, Code: make([]api.Op, 17)}
	long := api.Node{Kind: api.KMap, Ins: 1, Outs: 1, Code: slices.Repeat([]api.Op{{Kind: -1}}, 17)}
	code := api.Node{Kind: api.KFilter, Ins: 1, Outs: 1, Code: []api.Op{{}, {Kind: -1}}}
	fieldOfFree := api.Node{Kind: api.KFree, Bound: 1, Conns: slices.Repeat([]api.Conn{{In: -1}}, 17)}
	longFree := api.Node{Kind: api.KFree, Conns: slices.Repeat([]api.Conn{{In: -1}}, 17)}
	conn := api.Node{Kind: api.KFree, Conns: []api.Conn{{}, {Out: -1}}}
	portsOfFree := api.Node{Kind: api.KFree, Outs: -1, Conns: []api.Conn{{In: -1}}, Bound: 1}
	portsOfJoin := api.Node{Kind: api.KJoin, Ins: -1, Outs: 1, Bound: 1}
	for _, c := range []struct {
		g api.Graph
		e api.Errno
	}{
		{api.Graph{Arity: -1, Nodes: make([]api.Node, 25), Edges: make([]api.Edge, 49)}, api.ErrLong},
		{api.Graph{Arity: -1, Nodes: make([]api.Node, 25)}, api.ErrLong},
		{api.Graph{Arity: -1, Nodes: []api.Node{noKind}, Edges: slices.Repeat(bad, 25)}, api.ErrLong},
		{api.Graph{Arity: 1, Nodes: []api.Node{noKind}, Edges: make([]api.Edge, 49)}, api.ErrLong},
		{api.Graph{Arity: -1, Nodes: []api.Node{noKind}, Edges: bad}, api.ErrArity},
		{api.Graph{Arity: -1, Edges: bad}, api.ErrArity},
		{api.Graph{Nodes: []api.Node{noKind}, Edges: bad}, api.ErrKind},
		{api.Graph{Nodes: []api.Node{ports}, Edges: bad}, api.ErrPorts},
		{api.Graph{Nodes: []api.Node{portsOfFree}, Edges: bad}, api.ErrPorts},
		{api.Graph{Nodes: []api.Node{portsOfJoin}, Edges: bad}, api.ErrPorts},
		{api.Graph{Nodes: []api.Node{field}, Edges: bad}, api.ErrField},
		{api.Graph{Nodes: []api.Node{fieldOfFree}, Edges: bad}, api.ErrField},
		{api.Graph{Nodes: []api.Node{long}, Edges: bad}, api.ErrLong},
		{api.Graph{Nodes: []api.Node{longFree}, Edges: bad}, api.ErrLong},
		{api.Graph{Nodes: []api.Node{code}, Edges: bad}, api.ErrCode},
		{api.Graph{Nodes: []api.Node{conn}, Edges: bad}, api.ErrConn},
		{api.Graph{Nodes: []api.Node{conn, noKind}}, api.ErrConn},
		{api.Graph{Nodes: []api.Node{code, noKind}}, api.ErrCode},
		{api.Graph{Nodes: []api.Node{ordinary(api.KJoin), long, ports}}, api.ErrLong},
		{api.Graph{Nodes: []api.Node{ordinary(api.KFree), field, noKind}}, api.ErrField},
		{api.Graph{Nodes: []api.Node{ordinary(api.KFree)}, Edges: bad}, api.ErrEdge},
	} {
		fails(t, c.g, c.e)
	}
}

func TestExamplesOfBytes(t *testing.T) { // P8.2
	refused(t, nil, api.ErrShort, 0)
	refused(t, []byte{1}, api.ErrShort, 1)
	refused(t, []byte{1, 0x19}, api.ErrLong, 1)
	refused(t, []byte{1, 1, 9}, api.ErrKind, 2)
	refused(t, []byte{1, 1, 8, 2}, api.ErrForm, 3)
	refused(t, []byte{1, 0, 0, 0}, api.ErrRest, 3)
	back(t, []byte{1, 1, 2, 0, 0}, one(api.Node{Kind: api.KMap, Ins: 1, Outs: 1}))
}

// each goes through the parts of a graph, with the bytes ahead of each, its form, and those behind it.
func each(g api.Graph, do func(p part, ahead, form, behind []byte)) {
	l := parts(g)
	for i, p := range l {
		do(p, forms(l[:i]), p.form(), forms(l[i+1:]))
	}
}

// with is some bytes with others ahead and behind.
func with(ahead []byte, v uint64, behind []byte) []byte {
	return slices.Concat(ahead, part{number, v}.form(), behind)
}

func TestEachBeginning(t *testing.T) { // P8.2
	each(all(), func(p part, ahead, form, behind []byte) {
		for n := range form {
			refused(t, slices.Concat(ahead, form[:n]), api.ErrShort, len(ahead))
		}
	})
}

func TestBytesThatAreLeft(t *testing.T) { // P8.2
	b := there(t, all())
	for _, more := range [][]byte{{0}, {1}, {255}, {0, 0}, b} {
		refused(t, slices.Concat(b, more), api.ErrRest, len(b))
	}
}

func TestLongerForms(t *testing.T) { // P8.2
	each(all(), func(p part, ahead, form, behind []byte) {
		if p.what == truth {
			return
		}
		form[len(form)-1] += 128
		refused(t, slices.Concat(ahead, form, []byte{0}, behind), api.ErrForm, len(ahead))
		refused(t, slices.Concat(ahead, form, []byte{128, 0}, behind), api.ErrForm, len(ahead))
		refused(t, slices.Concat(ahead, form, []byte{0}), api.ErrForm, len(ahead))
		ten := bytes.Repeat([]byte{255}, 9)
		refused(t, slices.Concat(ahead, ten, []byte{2}, behind), api.ErrForm, len(ahead))
		refused(t, slices.Concat(ahead, ten), api.ErrShort, len(ahead))
	})
}

func TestNumbersThatAreTooGreat(t *testing.T) { // P8.2
	each(all(), func(p part, ahead, form, behind []byte) {
		var above []uint64
		e := api.ErrRange
		switch p.what {
		case truth, number:
			return
		case nodes:
			above, e = []uint64{25, 255, 256, 280, 1<<32 + 1, math.MaxInt64}, api.ErrLong
		case edges:
			above, e = []uint64{49, 256, 257, 1<<32 + 1, math.MaxInt64}, api.ErrLong
		case ops, conns:
			above, e = []uint64{17, 256, 257, 1<<32 + 1, math.MaxInt64}, api.ErrLong
		case kind:
			above, e = []uint64{0, 9, 10, 127, 128, 256, 257, 1<<32 + 1, math.MaxInt64}, api.ErrKind
		}
		for _, v := range append(above, 1<<63, 1<<63+1, math.MaxUint64-1, math.MaxUint64) {
			refused(t, with(ahead, v, behind), e, len(ahead))
			refused(t, with(ahead, v, nil), e, len(ahead))
		}
	})
}

func TestNumbersThatAreGreat(t *testing.T) { // P8.2, P8.3
	each(all(), func(p part, ahead, form, behind []byte) {
		most := uint64(math.MaxInt64)
		switch p.what {
		case number:
			most = math.MaxUint64
		case arity, whole:
		default:
			return
		}
		for _, v := range []uint64{0, 128, most - 1, most} {
			b := with(ahead, v, behind)
			g, e, at := Get(b)
			if e != api.OK || at != 0 {
				t.Errorf("% x: %d at %d", b, e, at)
			}
			if c, e := Put(g); e != api.OK || !bytes.Equal(b, c) {
				t.Errorf("% x, put anew: % x, %d", b, c, e)
			}
		}
	})
}

func TestTruths(t *testing.T) { // P8.2
	each(all(), func(p part, ahead, form, behind []byte) {
		if p.what != truth {
			return
		}
		refused(t, ahead, api.ErrShort, len(ahead))
		for b := range 256 {
			l := slices.Concat(ahead, []byte{byte(b)}, behind)
			if b > 1 {
				refused(t, l, api.ErrForm, len(ahead))
			} else if _, e, at := Get(l); e != api.OK || at != 0 {
				t.Errorf("% x: %d at %d", l, e, at)
			}
		}
	})
}

func TestTheFirstFaultIsTheAnswer(t *testing.T) { // P8.2, P4
	refused(t, []byte{1, 25, 9}, api.ErrLong, 1)
	refused(t, []byte{0x80, 0, 25}, api.ErrForm, 0)
	refused(t, []byte{1, 2, 9, 9}, api.ErrKind, 2)
	refused(t, []byte{1, 2, 1, 9}, api.ErrKind, 3)
	refused(t, []byte{1, 1, 8, 2, 17}, api.ErrForm, 3)
	refused(t, []byte{1, 1, 8, 1, 17}, api.ErrLong, 4)
	refused(t, []byte{1, 1, 2, 17, 49}, api.ErrLong, 3)
	refused(t, []byte{1, 0, 49, 0}, api.ErrLong, 2)
	refused(t, []byte{1, 0, 1, 0, 0, 0, 0, 2, 7}, api.ErrForm, 7)
	refused(t, []byte{1, 0, 2, 0, 0, 0, 0, 1}, api.ErrShort, 8)
}
