package world

import (
	"maps"
	"math/bits"
	"slices"

	"sluice/api"
	"sluice/code"
	"sluice/graph"
	"sluice/paths"
	"sluice/route"
)

// plain is a world by the words of the document. All batches that were ever made are kept, and a view is added up anew of those that were heard; an act is done on a copy, which is let go where it is refused; what it has changed is worked out of what stands there ahead of it and behind.
type plain struct {
	raw       api.Graph
	table     *paths.Table
	ins, outs []int // of each node its first in-place and out-place
	first     []api.Change
	hands     []hand
	heard     map[[2]int]int // by from and to: how many batches of the one the other has heard
	under     map[[2]int][]api.Message
	sums      int // records that sums have told: for the tests of what is drawn alone
}

// hand is one worker.
type hand struct {
	epochs  map[int]api.Time
	held    []api.Held
	number  int // the greatest that was given
	waiting []api.Message
	added   map[int][]api.Caught // by sum: the records that it hasn't told
	caught  map[int][]api.Caught
	said    [][]api.Change // its batches
}

func plainOf(raw api.Graph, workers int) plain {
	g, _, _ := graph.New(raw)
	table, _ := paths.New(g)
	p := plain{raw: raw, table: table, heard: map[[2]int]int{}, under: map[[2]int][]api.Message{}}
	places := 0
	for _, n := range raw.Nodes {
		p.ins, p.outs = append(p.ins, places), append(p.outs, places+n.Ins)
		places += n.Ins + n.Outs
	}
	for range workers {
		h := hand{epochs: map[int]api.Time{}, added: map[int][]api.Caught{}, caught: map[int][]api.Caught{}}
		for node, n := range raw.Nodes {
			if n.Kind == api.KInput {
				h.epochs[node] = api.Time{}
			}
			for port := range n.Outs {
				if n.Start {
					h.mint(api.Stamp{At: p.outs[node] + port})
				}
			}
		}
		p.hands = append(p.hands, h)
	}
	p.first = p.tokens()
	return p
}

func (h *hand) mint(s api.Stamp) int {
	h.number++
	h.held = append(h.held, api.Held{ID: h.number, S: s})
	return h.number
}

func (p plain) copied() plain {
	p.hands = slices.Clone(p.hands)
	for i, h := range p.hands {
		h.epochs, h.added, h.caught = maps.Clone(h.epochs), maps.Clone(h.added), maps.Clone(h.caught)
		h.held, h.waiting, h.said = slices.Clone(h.held), slices.Clone(h.waiting), slices.Clip(h.said)
		p.hands[i] = h
	}
	p.heard, p.under = maps.Clone(p.heard), maps.Clone(p.under)
	return p
}

func (p plain) kind(node int) int {
	if node < 0 || node >= len(p.raw.Nodes) {
		return 0
	}
	return p.raw.Nodes[node].Kind
}

// inPlace is the node and the port of an in-place; -1: there is none of that number.
func (p plain) inPlace(place int) (int, int) {
	for node, n := range p.raw.Nodes {
		if port := place - p.ins[node]; port >= 0 && port < n.Ins {
			return node, port
		}
	}
	return -1, -1
}

func (p plain) isWorker(n int) bool { return n >= 0 && n < len(p.hands) }

func (p plain) fits(t api.Time) bool {
	return (t.B == 0 || p.raw.Arity > 1) && (t.C == 0 || p.raw.Arity > 2)
}

func atOrAhead(t, u api.Time) bool { return t.A <= u.A && t.B <= u.B && t.C <= u.C }

// isOpen tells whether a time is open at a front.
func isOpen(front []api.Time, t api.Time) bool {
	return slices.ContainsFunc(front, func(u api.Time) bool { return atOrAhead(u, t) })
}

// plus is what a path makes of a time; false: none.
func plus(by api.Path, t api.Time) (api.Time, bool) {
	a, x := bits.Add64(by.A, t.A, 0)
	b, y := bits.Add64(by.B, t.B, 0)
	c, z := bits.Add64(by.C, t.C, 0)
	return api.Time{A: a, B: b, C: c}, x+y+z == 0
}

// tokens is what stands at all workers and on links.
func (p plain) tokens() []api.Change {
	m := map[api.Stamp]int64{}
	for _, l := range p.under {
		for _, x := range l {
			m[api.Stamp{At: x.At, T: x.T}]++
		}
	}
	for _, h := range p.hands {
		for _, x := range h.waiting {
			m[api.Stamp{At: x.At, T: x.T}]++
		}
		for _, x := range h.held {
			m[x.S]++
		}
		for node, t := range h.epochs {
			m[api.Stamp{At: p.outs[node], T: t}]++
		}
		for node, l := range h.added {
			times := map[api.Time]int{}
			for _, c := range l {
				times[c.T]++
			}
			for t := range times {
				m[api.Stamp{At: p.outs[node], T: t}]++
			}
		}
	}
	return listed(m)
}

// said is the changes of all batches of a worker that another one has heard; of its own all.
func (p plain) said(from, to int) []api.Change {
	many := p.heard[[2]int{from, to}]
	if from == to {
		many = len(p.hands[from].said)
	}
	return slices.Concat(p.hands[from].said[:many]...)
}

// view is the counts of a worker's view.
func (p plain) view(worker int) []api.Change {
	l := p.first
	for from := range p.hands {
		l = slices.Concat(l, p.said(from, worker))
	}
	return less(l, nil)
}

// underWay is the changes of all batches that a worker hasn't heard.
func (p plain) underWay(worker int) []api.Change {
	var l []api.Change
	for from, h := range p.hands {
		if from != worker {
			l = slices.Concat(l, slices.Concat(h.said[p.heard[[2]int{from, worker}]:]...))
		}
	}
	return less(l, nil)
}

// front is that of a place in a view.
func (p plain) front(view []api.Change, place int) []api.Time {
	var l []api.Stamp
	for _, c := range view {
		if c.N > 0 {
			l = append(l, c.S)
		}
	}
	return p.table.Front(place, l...)
}

func (p plain) outstanding() int {
	many := 0
	for _, l := range p.under {
		many += len(l)
	}
	for _, h := range p.hands {
		many += len(h.waiting)
	}
	return many
}

// refused is what an act is refused by.
type refused struct{ e api.Errno }

func refuse(is bool, e api.Errno) {
	if is {
		panic(refused{e})
	}
}

// effect is what an act comes to so far.
type effect struct {
	plain
	*hand
	self int
	room int
	made int          // less those that were taken
	knew []api.Change // the view ahead of the act
	x    Answer
}

// do does an act on a copy; refused, the copy is let go.
func (p *plain) do(a Act) (x told) {
	defer func() {
		if y := recover(); y != nil {
			x = told{e: y.(refused).e}
		}
	}()
	refuse(a.Kind < 1 || a.Kind > 12, api.ErrArg)
	comes := a.Kind == Hear || a.Kind == Pass
	refuse(!p.isWorker(a.W) || comes && (!p.isWorker(a.From) || a.From == a.W), api.ErrWorker)
	if comes {
		return told{p.come(a.Kind, [2]int{a.From, a.W}), api.OK}
	}
	f := effect{plain: p.copied(), self: a.W, room: 2048 - p.outstanding()}
	f.hand = &f.hands[a.W]
	f.act(a)
	f.x.Changes = less(f.tokens(), p.tokens())
	if len(f.x.Changes) > 0 {
		f.hand.said = append(f.hand.said, f.x.Changes)
	}
	*p = f.plain
	return told{f.x, api.OK}
}

// come lets what is first on a link come.
func (p *plain) come(kind int, link [2]int) Answer {
	if kind == Hear {
		n := p.heard[link]
		refuse(n == len(p.hands[link[0]].said), api.ErrEmpty)
		p.heard[link] = n + 1
		return Answer{Changes: p.hands[link[0]].said[n]}
	}
	refuse(len(p.under[link]) == 0, api.ErrEmpty)
	m := p.under[link][0]
	p.under[link] = p.under[link][1:]
	h := &p.hands[link[1]]
	h.waiting = append(h.waiting, m)
	return Answer{Message: m}
}

func (f *effect) act(a Act) {
	switch a.Kind {
	case Send, Advance:
		epoch, open := f.epochs[a.N]
		refuse(f.kind(a.N) != api.KInput, api.ErrNode)
		refuse(!f.fits(a.T), api.ErrArity)
		refuse(!open, api.ErrClosed)
		refuse(!atOrAhead(epoch, a.T), api.ErrEpoch)
		if a.Kind == Advance {
			f.epochs[a.N] = a.T
		} else {
			f.leave(f.outs[a.N], a.T, a.R)
			f.keep()
		}
	case Close:
		_, open := f.epochs[a.N]
		refuse(f.kind(a.N) != api.KInput, api.ErrNode)
		refuse(!open, api.ErrClosed)
		delete(f.epochs, a.N)
	case Take:
		f.take(a.N)
	case Run:
		refuse(f.kind(a.N) < api.KMap || f.kind(a.N) > api.KProbe, api.ErrNode)
		f.run(a.N)
	case Step:
		for node, n := range f.raw.Nodes {
			if n.Kind != api.KInput && n.Kind != api.KFree {
				f.run(node)
			}
		}
	default:
		f.capability(a)
	}
}

func (f *effect) capability(a Act) {
	i := slices.IndexFunc(f.held, func(h api.Held) bool { return h.ID == a.N })
	refuse(i < 0, api.ErrCap)
	s := f.held[i].S
	if a.Kind == Lower || a.Kind == Emit {
		refuse(!f.fits(a.T), api.ErrArity)
		refuse(!atOrAhead(s.T, a.T), api.ErrBack)
	}
	switch a.Kind {
	case Clone:
		refuse(len(f.held) == 256, api.ErrFull)
		f.x.IDs = []int{f.mint(s)}
	case Lower:
		f.held[i].S.T = a.T
	case Drop:
		f.held = slices.Delete(f.held, i, i+1)
	case Emit:
		f.leave(s.At, a.T, a.R)
		f.keep()
	}
}

func (f *effect) take(place int) {
	node, port := f.inPlace(place)
	refuse(f.kind(node) != api.KFree, api.ErrPlace)
	i := slices.IndexFunc(f.waiting, func(m api.Message) bool { return m.At == place })
	refuse(i < 0, api.ErrEmpty)
	f.x.Message = f.waiting[i]
	f.waiting = slices.Delete(f.waiting, i, i+1)
	for _, c := range f.raw.Nodes[node].Conns {
		if t, ok := plus(c.By, f.x.Message.T); ok && c.In == port {
			f.x.IDs = append(f.x.IDs, f.mint(api.Stamp{At: f.outs[node] + c.Out, T: t}))
		}
	}
	refuse(len(f.held) > 256, api.ErrFull)
}

// leave lets a record leave an out-place.
func (f *effect) leave(place int, t api.Time, r api.Record) {
	for _, d := range f.raw.Edges {
		if f.outs[d.From]+d.Out != place {
			continue
		}
		f.made++
		m := api.Message{At: f.ins[d.To] + d.In, T: t, R: r}
		if to := route.To(r.Key, len(f.hands)); d.Keyed && to != f.self {
			link := [2]int{f.self, to}
			f.under[link] = append(slices.Clip(f.under[link]), m)
		} else {
			f.waiting = append(f.waiting, m)
		}
	}
}

func (f *effect) keep() { refuse(f.made > max(f.room, 0), api.ErrFull) }

// run runs a node.
func (f *effect) run(node int) {
	n := f.raw.Nodes[node]
	var l []api.Message
	for port := range n.Ins {
		for _, m := range f.waiting {
			if m.At == f.ins[node]+port {
				l = append(l, m)
			}
		}
	}
	f.made -= len(l)
	f.waiting = slices.DeleteFunc(f.waiting, func(m api.Message) bool { return m.At >= f.ins[node] && m.At < f.ins[node]+n.Ins })
	for _, m := range l {
		c := api.Caught{T: m.T, R: m.R}
		switch n.Kind {
		case api.KSum:
			f.added[node] = append(slices.Clip(f.added[node]), c)
		case api.KProbe:
			f.caught[node] = append(slices.Clip(f.caught[node]), c)
		default:
			if u, ok := becomes(n, c); ok {
				f.leave(f.outs[node], u.T, u.R)
			}
		}
	}
	if n.Kind == api.KSum {
		f.tell(node)
	}
	f.keep()
}

// becomes is what a node that keeps nothing makes of a record at a time; false: it is let go.
func becomes(n api.Node, c api.Caught) (api.Caught, bool) {
	switch n.Kind {
	case api.KMap:
		return api.Caught{T: c.T, R: code.Map(n.Code, c.R)}, true
	case api.KFilter:
		return c, code.Pass(n.Code, c.R)
	case api.KLoop:
		t, ok := plus(n.By, c.T)
		within := (n.By.A == 0 || t.A <= n.Bound) && (n.By.B == 0 || t.B <= n.Bound) && (n.By.C == 0 || t.C <= n.Bound)
		return api.Caught{T: t, R: c.R}, ok && within
	}
	return c, true
}

// tell tells a sum's times that are done, the first one first, each with its keys rising. Its view has not changed since the act began: what the act says isn't said yet.
func (f *effect) tell(node int) {
	if f.knew == nil {
		f.knew = f.view(f.self)
	}
	front := f.front(f.knew, f.ins[node])
	var done, stay []api.Caught
	for _, c := range f.added[node] {
		if isOpen(front, c.T) {
			stay = append(stay, c)
		} else {
			done = append(done, c)
		}
	}
	f.added[node] = stay
	for _, c := range summedUp(done) {
		f.leave(f.outs[node], c.T, c.R)
		f.sums++
	}
}

// summedUp is the sums of some records, by time and key, in the order in which a sum tells them.
func summedUp(l []api.Caught) []api.Caught {
	sums := map[api.Caught]uint64{} // their Val is 0
	for _, c := range l {
		sums[api.Caught{T: c.T, R: api.Record{Key: c.R.Key}}] += c.R.Val
	}
	var told []api.Caught
	for _, c := range slices.SortedFunc(maps.Keys(sums), orderOfCaught) {
		c.R.Val = sums[c]
		told = append(told, c)
	}
	return told
}

// caughtBy is what all workers' probes of a node have caught.
func (p plain) caughtBy(node int) []api.Caught {
	var l []api.Caught
	for _, h := range p.hands {
		l = append(l, h.caught[node]...)
	}
	slices.SortFunc(l, orderOfCaught)
	return l
}

// waitsAt is how many messages wait at a place of a worker.
func (p plain) waitsAt(worker, place int) int {
	many := 0
	for _, m := range p.hands[worker].waiting {
		if m.At == place {
			many++
		}
	}
	return many
}
