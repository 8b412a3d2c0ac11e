package world

import (
	"sluice/api"
	"sluice/batch"
	"sluice/worker"
)

// act does what is asked of a world in which the worker is.
type act func(w *World, a Act) (Answer, api.Errno)

// acts is what each kind does, by its number; of 0 there is none.
func acts() [Pass + 1]act {
	return [...]act{
		Send:    sending((*worker.Worker).Send),
		Advance: goingOn((*worker.Worker).Advance),
		Close:   ending((*worker.Worker).Close),
		Take:    taking((*worker.Worker).Take),
		Clone:   cloning((*worker.Worker).Clone),
		Lower:   goingOn((*worker.Worker).Lower),
		Drop:    ending((*worker.Worker).Drop),
		Emit:    sending((*worker.Worker).Emit),
		Run:     running((*worker.Worker).Run),
		Step:    stepping((*worker.Worker).Step),
		Hear:    (*World).hear,
		Pass:    (*World).pass,
	}
}

// sending is what lets a record leave, by an input or a capability.
func sending(do func(one *worker.Worker, n int, t api.Time, r api.Record, room int) (worker.Done, api.Errno)) act {
	return func(w *World, a Act) (Answer, api.Errno) {
		done, e := do(w.workers[a.W], a.N, a.T, a.R, w.room())
		return w.told(a.W, done, Answer{}, e)
	}
}

// goingOn is what lets an input or a capability go on to a time.
func goingOn(do func(one *worker.Worker, n int, t api.Time) (worker.Done, api.Errno)) act {
	return func(w *World, a Act) (Answer, api.Errno) {
		done, e := do(w.workers[a.W], a.N, a.T)
		return w.told(a.W, done, Answer{}, e)
	}
}

// ending is what lets an input or a capability go.
func ending(do func(one *worker.Worker, n int) (worker.Done, api.Errno)) act {
	return func(w *World, a Act) (Answer, api.Errno) {
		done, e := do(w.workers[a.W], a.N)
		return w.told(a.W, done, Answer{}, e)
	}
}

func taking(do func(one *worker.Worker, place int) (worker.Done, api.Message, []int, api.Errno)) act {
	return func(w *World, a Act) (Answer, api.Errno) {
		done, m, ids, e := do(w.workers[a.W], a.N)
		return w.told(a.W, done, Answer{IDs: ids, Message: m}, e)
	}
}

func cloning(do func(one *worker.Worker, id int) (worker.Done, int, api.Errno)) act {
	return func(w *World, a Act) (Answer, api.Errno) {
		done, id, e := do(w.workers[a.W], a.N)
		return w.told(a.W, done, Answer{IDs: []int{id}}, e)
	}
}

func running(do func(one *worker.Worker, node, room int) (worker.Done, api.Errno)) act {
	return func(w *World, a Act) (Answer, api.Errno) {
		done, e := do(w.workers[a.W], a.N, w.room())
		return w.told(a.W, done, Answer{}, e)
	}
}

func stepping(do func(one *worker.Worker, room int) (worker.Done, api.Errno)) act {
	return func(w *World, a Act) (Answer, api.Errno) {
		done, e := do(w.workers[a.W], w.room())
		return w.told(a.W, done, Answer{}, e)
	}
}

// hear lets a worker hear the first batch on a link. Another worker of the same graph made it, so it is not refused.
func (w *World) hear(a Act) (Answer, api.Errno) {
	b, e := w.batches.Take(a.From, a.W)
	if e != api.OK {
		return Answer{}, e
	}
	w.workers[a.W].Hear(b)
	return Answer{Changes: changes(b)}, api.OK
}

// pass lets the first message on a link come to a worker. Another worker of the same graph made it, so it is not refused.
func (w *World) pass(a Act) (Answer, api.Errno) {
	m, e := w.messages.Take(a.From, a.W)
	if e != api.OK {
		return Answer{}, e
	}
	w.workers[a.W].Pass(m)
	return Answer{Message: m}, api.OK
}

// told puts what a worker's act has come to on the links, and answers it; with an error neither.
func (w *World) told(from int, done worker.Done, answer Answer, e api.Errno) (Answer, api.Errno) {
	if e != api.OK {
		return Answer{}, e
	}
	if len(done.Batch) > 0 {
		w.spread(from, done.Batch)
	}
	for _, o := range done.Out {
		w.messages.Put(from, o.Worker, o.M)
	}
	answer.Changes = changes(done.Batch)
	return answer, api.OK
}

// spread puts a batch on the links to all other workers.
func (w *World) spread(from int, b []byte) {
	for to := range w.workers {
		if to != from {
			w.batches.Put(from, to, b)
		}
	}
}

// room is how many more messages may be outstanding.
func (w *World) room() int { return api.MaxQueue - w.Outstanding() }

// changes is what a batch tells. A worker made it, so it is in form.
func changes(b []byte) []api.Change {
	l, _ := batch.Get(b)
	return l
}
