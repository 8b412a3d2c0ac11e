package worker

import (
	"sluice/api"
	"sluice/caps"
	"sluice/path"
	"sluice/source"
	"sluice/stamp"
)

// Send lets a record leave an input; ErrNode; ErrArity, ErrClosed, ErrEpoch; ErrFull.
func (w *Worker) Send(node int, t api.Time, r api.Record, room int) (Done, api.Errno) {
	return w.plain(room, func(a *act) {
		must(a.input(node).Send(t))
		a.leave(w.leaving(node, t), r)
		a.keepRoom()
	})
}

// Advance lets an input's epoch go on; ErrNode; ErrArity, ErrClosed, ErrEpoch.
func (w *Worker) Advance(node int, t api.Time) (Done, api.Errno) {
	return w.plain(0, func(a *act) {
		s := a.input(node)
		was, _ := s.Epoch()
		must(s.Advance(t))
		a.move(w.leaving(node, was), t)
	})
}

// Close closes an input; ErrNode; ErrClosed.
func (w *Worker) Close(node int) (Done, api.Errno) {
	return w.plain(0, func(a *act) {
		s := a.input(node)
		was, _ := s.Epoch()
		must(s.Close())
		a.use(w.leaving(node, was))
	})
}

// Take takes the message that waits longest at an in-place of a free node: it, and the numbers of the capabilities that are minted out of it; ErrPlace; ErrEmpty; ErrFull.
func (w *Worker) Take(place int) (Done, api.Message, []int, api.Errno) {
	told, e := w.whole(0, func(a *act) {
		node, port, in := w.g.Of(place)
		if !in || w.kind(node) != api.KFree {
			giveUp(api.ErrPlace)
		}
		a.told.message = a.first(place)
		a.mintThrough(node, port, a.told.message.T)
	})
	return told.done, told.message, told.ids, e
}

// Clone mints another capability at the stamp of one: its number; ErrCap; ErrFull.
func (w *Worker) Clone(id int) (Done, int, api.Errno) {
	told, e := w.whole(0, func(a *act) {
		held := a.caps()
		a.told.id = a.mint(held, get(held, id))
	})
	return told.done, told.id, e
}

// Lower lets a capability go on to a time; ErrCap; ErrArity; ErrBack.
func (w *Worker) Lower(id int, t api.Time) (Done, api.Errno) {
	return w.plain(0, func(a *act) {
		held := a.caps()
		s := get(held, id)
		must(w.fits(t))
		must(held.Lower(id, t))
		a.move(s, t)
	})
}

// Drop lets a capability go; ErrCap.
func (w *Worker) Drop(id int) (Done, api.Errno) {
	return w.plain(0, func(a *act) {
		held := a.caps()
		s := get(held, id)
		must(held.Drop(id))
		a.use(s)
	})
}

// Emit lets a record leave a capability's place; ErrCap; ErrArity; ErrBack; ErrFull.
func (w *Worker) Emit(id int, t api.Time, r api.Record, room int) (Done, api.Errno) {
	return w.plain(room, func(a *act) {
		s := get(w.caps, id)
		must(w.fits(t))
		if !stamp.Ahead(s.T, t) {
			giveUp(api.ErrBack)
		}
		a.leave(api.Stamp{At: s.At, T: t}, r)
		a.keepRoom()
	})
}

// Run runs a node; ErrNode: it isn't one that is run; ErrFull.
func (w *Worker) Run(node, room int) (Done, api.Errno) {
	return w.plain(room, func(a *act) {
		if !isRun(w.kind(node)) {
			giveUp(api.ErrNode)
		}
		a.run(node)
	})
}

// Step runs all nodes that are run, by rising numbers, as one act; ErrFull.
func (w *Worker) Step(room int) (Done, api.Errno) {
	return w.plain(room, func(a *act) {
		for node, n := range w.nodes {
			if isRun(n.Kind) {
				a.run(node)
			}
		}
	})
}

// input is an input's handle. What is done to it is set back.
func (a *act) input(node int) *source.Source {
	s, is := a.w.inputs[node]
	if !is {
		giveUp(api.ErrNode)
	}
	was := s.Copy()
	a.back(func() { a.w.inputs[node] = was })
	return s
}

// caps is the capabilities. What is done to them is set back, by a copy: so are their numbers.
func (a *act) caps() *caps.Caps {
	was := a.w.caps.Copy()
	a.back(func() { a.w.caps = was })
	return a.w.caps
}

func get(held *caps.Caps, id int) api.Stamp {
	s, e := held.Get(id)
	must(e)
	return s
}

func (a *act) mint(held *caps.Caps, s api.Stamp) int {
	id, e := held.Mint(s)
	must(e)
	a.make(s)
	return id
}

// mintThrough mints a capability for each connection of an in-port by which a time becomes a time.
func (a *act) mintThrough(node, port int, t api.Time) {
	held := a.caps()
	for _, c := range a.w.g.Conns(node) {
		later, is := path.On(c.By, t)
		if c.In == port && is {
			s := api.Stamp{At: a.w.g.Out(node, c.Out), T: later}
			a.told.ids = append(a.told.ids, a.mint(held, s))
		}
	}
}
