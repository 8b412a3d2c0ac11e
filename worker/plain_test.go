package worker

import (
	"cmp"
	"maps"
	"math/bits"
	"slices"

	"sluice/api"
	"sluice/batch"
	"sluice/code"
	"sluice/graph"
	"sluice/paths"
	"sluice/route"
)

// plain is a worker by the words of the chapters: lists that are gone through anew each time. An act is done on a copy, which is let go where it is refused; what it has changed is worked out of what stands there ahead of it and behind.
type plain struct {
	raw           api.Graph
	table         *paths.Table
	workers, self int
	ins, outs     []int // of each node its first in-place and out-place
	epochs        map[int]api.Time
	held          []api.Held
	number        int // the greatest that was given
	waiting       []api.Message
	added         map[int][]api.Caught // by sum: the records that it hasn't told
	caught        map[int][]api.Caught
	counts        map[api.Stamp]int64
	sums          int // records that sums have told: for the tests of what is drawn alone
}

func plainOf(raw api.Graph, workers, self int) plain {
	g, _, _ := graph.New(raw)
	table, _ := paths.New(g)
	p := plain{raw: raw, table: table, workers: workers, self: self, epochs: map[int]api.Time{}, added: map[int][]api.Caught{}, caught: map[int][]api.Caught{}, counts: map[api.Stamp]int64{}}
	places := 0
	for node, n := range raw.Nodes {
		p.ins, p.outs = append(p.ins, places), append(p.outs, places+n.Ins)
		places += n.Ins + n.Outs
		if n.Kind == api.KInput {
			p.epochs[node] = api.Time{}
			p.counts[api.Stamp{At: p.outs[node]}] = int64(workers)
		}
		for port := range n.Outs {
			if s := (api.Stamp{At: p.outs[node] + port}); n.Start {
				p.mint(s)
				p.counts[s] = int64(workers)
			}
		}
	}
	return p
}

func (p *plain) mint(s api.Stamp) int {
	p.number++
	p.held = append(p.held, api.Held{ID: p.number, S: s})
	return p.number
}

func (p plain) copied() plain {
	p.epochs, p.added, p.caught, p.counts = maps.Clone(p.epochs), maps.Clone(p.added), maps.Clone(p.caught), maps.Clone(p.counts)
	p.held, p.waiting = slices.Clone(p.held), slices.Clone(p.waiting)
	return p
}

func (p plain) kind(node int) int {
	if node < 0 || node >= len(p.raw.Nodes) {
		return 0
	}
	return p.raw.Nodes[node].Kind
}

// inPlace is the node and the port of an in-place; -1: there is none of that number.
func (p plain) inPlace(place int) (int, int) {
	for node, n := range p.raw.Nodes {
		if port := place - p.ins[node]; port >= 0 && port < n.Ins {
			return node, port
		}
	}
	return -1, -1
}

func (p plain) fits(t api.Time) bool {
	return (t.B == 0 || p.raw.Arity > 1) && (t.C == 0 || p.raw.Arity > 2)
}

func atOrAhead(t, u api.Time) bool { return t.A <= u.A && t.B <= u.B && t.C <= u.C }

// plus is what a path makes of a time; false: none.
func plus(by api.Path, t api.Time) (api.Time, bool) {
	a, x := bits.Add64(by.A, t.A, 0)
	b, y := bits.Add64(by.B, t.B, 0)
	c, z := bits.Add64(by.C, t.C, 0)
	return api.Time{A: a, B: b, C: c}, x+y+z == 0
}

func (p plain) front(place int) []api.Time {
	var l []api.Stamp
	for s, n := range p.counts {
		if n > 0 {
			l = append(l, s)
		}
	}
	return p.table.Front(place, l...)
}

func (p plain) done(place int, t api.Time) bool {
	return !slices.ContainsFunc(p.front(place), func(u api.Time) bool { return atOrAhead(u, t) })
}

// tokens is what stands at the worker.
func (p plain) tokens() map[api.Stamp]int64 {
	m := map[api.Stamp]int64{}
	for _, x := range p.waiting {
		m[api.Stamp{At: x.At, T: x.T}]++
	}
	for _, h := range p.held {
		m[h.S]++
	}
	for node, t := range p.epochs {
		m[api.Stamp{At: p.outs[node], T: t}]++
	}
	for node, l := range p.added {
		for _, c := range l {
			m[api.Stamp{At: p.outs[node], T: c.T}] = 1
		}
	}
	return m
}

// refused is what an act is refused by.
type refused struct{ e api.Errno }

func (p *plain) refuse(is bool, e api.Errno) {
	if is {
		panic(refused{e})
	}
}

// effect is what an act comes to so far.
type effect struct {
	plain
	made, taken, room int
	x                 told
}

// do does an act on a copy; refused, the copy is let go.
func (p *plain) do(c asked) (x told) {
	f := effect{plain: p.copied(), room: max(c.room, 0)}
	defer func() {
		if y := recover(); y != nil {
			x = told{e: y.(refused).e}
		}
	}()
	f.act(c)
	now := f.tokens()
	for _, o := range f.x.done.Out {
		now[api.Stamp{At: o.M.At, T: o.M.T}]++
	}
	changes := less(listed(now), listed(p.tokens()))
	f.refuse(!f.add(changes), api.ErrRange)
	f.x.done.Batch, _ = batch.Put(changes)
	*p = f.plain
	return f.x
}

// add adds to the counts; false: they may not be so.
func (p *plain) add(changes []api.Change) bool {
	will := maps.Clone(p.counts)
	for _, c := range changes {
		will[c.S] += c.N
	}
	for _, n := range will {
		if n < -most || n > most {
			return false
		}
	}
	p.counts = will
	return true
}

func (p *plain) hear(b []byte) error {
	l, err := batch.Get(b)
	if err != nil {
		return err
	}
	for _, c := range l {
		if c.S.At >= p.table.Places() {
			return api.ErrPlace
		}
		if !p.fits(c.S.T) {
			return api.ErrArity
		}
	}
	if !p.add(l) {
		return api.ErrRange
	}
	return nil
}

func (p *plain) pass(m api.Message) api.Errno {
	if node, _ := p.inPlace(m.At); node < 0 {
		return api.ErrPlace
	}
	if !p.fits(m.T) {
		return api.ErrArity
	}
	p.waiting = append(p.waiting, m)
	return api.OK
}

func (f *effect) act(c asked) {
	switch c.name {
	case "Send", "Advance":
		epoch, open := f.epochs[c.n]
		f.refuse(f.kind(c.n) != api.KInput, api.ErrNode)
		f.refuse(!f.fits(c.t), api.ErrArity)
		f.refuse(!open, api.ErrClosed)
		f.refuse(!atOrAhead(epoch, c.t), api.ErrEpoch)
		if c.name == "Advance" {
			f.epochs[c.n] = c.t
		} else {
			f.leave(c.n, 0, c.t, c.r)
			f.keep()
		}
	case "Close":
		_, open := f.epochs[c.n]
		f.refuse(f.kind(c.n) != api.KInput, api.ErrNode)
		f.refuse(!open, api.ErrClosed)
		delete(f.epochs, c.n)
	case "Take":
		f.take(c.n)
	case "Run":
		f.refuse(f.kind(c.n) < api.KMap || f.kind(c.n) > api.KProbe, api.ErrNode)
		f.run(c.n)
	case "Step":
		for node, n := range f.raw.Nodes {
			if n.Kind != api.KInput && n.Kind != api.KFree {
				f.run(node)
			}
		}
	default:
		f.capability(c)
	}
}

func (f *effect) capability(c asked) {
	i := slices.IndexFunc(f.held, func(h api.Held) bool { return h.ID == c.n })
	f.refuse(i < 0, api.ErrCap)
	s := f.held[i].S
	if c.name == "Lower" || c.name == "Emit" {
		f.refuse(!f.fits(c.t), api.ErrArity)
		f.refuse(!atOrAhead(s.T, c.t), api.ErrBack)
	}
	switch c.name {
	case "Clone":
		f.refuse(len(f.held) == 256, api.ErrFull)
		f.x.ids = []int{f.mint(s)}
	case "Lower":
		f.held[i].S.T = c.t
	case "Drop":
		f.held = slices.Delete(f.held, i, i+1)
	case "Emit":
		for node, n := range f.raw.Nodes {
			if port := s.At - f.outs[node]; port >= 0 && port < n.Outs {
				f.leave(node, port, c.t, c.r)
			}
		}
		f.keep()
	}
}

func (f *effect) take(place int) {
	node, port := f.inPlace(place)
	f.refuse(f.kind(node) != api.KFree, api.ErrPlace)
	i := slices.IndexFunc(f.waiting, func(m api.Message) bool { return m.At == place })
	f.refuse(i < 0, api.ErrEmpty)
	f.x.message = f.waiting[i]
	f.waiting = slices.Delete(f.waiting, i, i+1)
	for _, c := range f.raw.Nodes[node].Conns {
		if t, ok := plus(c.By, f.x.message.T); ok && c.In == port {
			f.x.ids = append(f.x.ids, f.mint(api.Stamp{At: f.outs[node] + c.Out, T: t}))
		}
	}
	f.refuse(len(f.held) > 256, api.ErrFull)
}

// leave lets a record leave a port.
func (f *effect) leave(node, port int, t api.Time, r api.Record) {
	for _, d := range f.raw.Edges {
		if d.From != node || d.Out != port {
			continue
		}
		f.made++
		m := api.Message{At: f.ins[d.To] + d.In, T: t, R: r}
		if to := route.To(r.Key, f.workers); d.Keyed && to != f.self {
			f.x.done.Out = append(f.x.done.Out, route.Out{Worker: to, M: m})
		} else {
			f.waiting = append(f.waiting, m)
		}
	}
}

func (f *effect) keep() { f.refuse(f.made-f.taken > f.room, api.ErrFull) }

// run runs a node.
func (f *effect) run(node int) {
	n := f.raw.Nodes[node]
	var l []api.Message
	for port := range n.Ins {
		for _, m := range f.waiting {
			if m.At == f.ins[node]+port {
				l = append(l, m)
			}
		}
	}
	f.taken += len(l)
	f.waiting = slices.DeleteFunc(f.waiting, func(m api.Message) bool { return m.At >= f.ins[node] && m.At < f.outs[node] })
	for _, m := range l {
		switch n.Kind {
		case api.KSum:
			f.added[node] = append(slices.Clip(f.added[node]), api.Caught{T: m.T, R: m.R})
		case api.KProbe:
			f.caught[node] = append(slices.Clip(f.caught[node]), api.Caught{T: m.T, R: m.R})
		default:
			f.flow(node, n, m)
		}
	}
	if n.Kind == api.KSum {
		f.tell(node)
	}
	f.keep()
}

// flow lets what a node that keeps nothing makes of a message leave it.
func (f *effect) flow(node int, n api.Node, m api.Message) {
	switch n.Kind {
	case api.KMap:
		f.leave(node, 0, m.T, code.Map(n.Code, m.R))
	case api.KFilter:
		if code.Pass(n.Code, m.R) {
			f.leave(node, 0, m.T, m.R)
		}
	case api.KJoin:
		f.leave(node, 0, m.T, m.R)
	case api.KLoop:
		t, ok := plus(n.By, m.T)
		within := (n.By.A == 0 || t.A <= n.Bound) && (n.By.B == 0 || t.B <= n.Bound) && (n.By.C == 0 || t.C <= n.Bound)
		if ok && within {
			f.leave(node, 0, t, m.R)
		}
	}
}

// tell tells a sum's times that are done, the first one first, each with its keys rising.
func (f *effect) tell(node int) {
	sums := map[api.Caught]uint64{} // by time and key: their Val is 0
	var stay []api.Caught
	for _, c := range f.added[node] {
		if f.done(f.ins[node], c.T) {
			sums[api.Caught{T: c.T, R: api.Record{Key: c.R.Key}}] += c.R.Val
		} else {
			stay = append(stay, c)
		}
	}
	f.added[node] = stay
	for _, c := range slices.SortedFunc(maps.Keys(sums), orderOfCaught) {
		f.leave(node, 0, c.T, api.Record{Key: c.R.Key, Val: sums[c]})
		f.sums++
	}
}

func orderOfCaught(a, b api.Caught) int {
	return cmp.Or(orderOf(a.T, b.T), cmp.Compare(a.R.Key, b.R.Key), cmp.Compare(a.R.Val, b.R.Val))
}
