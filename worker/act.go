package worker

import (
	"slices"

	"sluice/api"
	"sluice/batch"
	"sluice/ledger"
	"sluice/route"
)

// act is one that is under way. It works on the worker itself; what it has changed is set back, if it is refused.
type act struct {
	w       *Worker
	room    int
	more    int // messages made less messages taken
	written *ledger.Ledger
	spots   map[int]*spot // by place: those at which it has put or taken messages
	backs   []func()      // set back what has been changed, the last one first
	lasts   []func()      // do what can't be set back, and what nothing else in the act looks at
	told    answer
}

// answer is what is told of an act; by which of it, its face knows.
type answer struct {
	done    Done
	message api.Message
	id      int
	ids     []int
}

// refusal is what an act is given up for.
type refusal struct{ e api.Errno }

// giveUp leaves all that is under way, up to the face.
func giveUp(e api.Errno) { panic(refusal{e}) }

// must gives up where something is refused.
func must(e api.Errno) {
	if e != api.OK {
		giveUp(e)
	}
}

// met is the refusal that was given up for. There is nothing else to recover from: if there were, it would be a fault of the program, and must not look like an answer.
func met(x any) refusal { return x.(refusal) }

// whole does an act, or, where it is refused, nothing.
func (w *Worker) whole(room int, do func(a *act)) (told answer, e api.Errno) {
	if w == nil {
		return answer{}, api.OK
	}
	a := &act{w: w, room: max(room, 0), written: ledger.New(), spots: map[int]*spot{}}
	defer func() {
		if x := recover(); x != nil {
			e = met(x).e
			a.setBack()
		}
	}()
	do(a)
	a.settle()
	return a.told, api.OK
}

// plain is an act of which no more is told than what it comes to.
func (w *Worker) plain(room int, do func(a *act)) (Done, api.Errno) {
	told, e := w.whole(room, do)
	return told.done, e
}

// settle lets the view have the changes; behind that nothing refuses any more.
func (a *act) settle() {
	changes := a.written.Changes()
	b, e := batch.Put(changes)
	must(e)
	must(a.w.view.Own(changes))
	a.told.done.Batch = b
	for _, do := range a.lasts {
		do()
	}
}

func (a *act) setBack() {
	for _, back := range slices.Backward(a.backs) {
		back()
	}
}

// back has something set back, if the act is refused.
func (a *act) back(do func()) { a.backs = append(a.backs, do) }

// last has something done when nothing refuses the act any more.
func (a *act) last(do func()) { a.lasts = append(a.lasts, do) }

func (a *act) make(s api.Stamp) { must(a.written.Make(s)) }

func (a *act) use(s api.Stamp) { must(a.written.Use(s)) }

// move lets a capability's token go on to a time.
func (a *act) move(s api.Stamp, t api.Time) {
	a.use(s)
	a.make(api.Stamp{At: s.At, T: t})
}

// leave lets a record leave an out-place: a message for each edge there.
func (a *act) leave(s api.Stamp, r api.Record) {
	for _, o := range route.Send(a.w.g, s.At, s.T, r, a.w.self, a.w.workers) {
		a.make(api.Stamp{At: o.M.At, T: o.M.T})
		a.more++
		if o.Worker == a.w.self {
			a.put(o.M)
		} else {
			a.told.done.Out = append(a.told.done.Out, o)
		}
	}
}

// keepRoom gives up where more messages are outstanding than may be.
func (a *act) keepRoom() {
	if a.more > a.room {
		giveUp(api.ErrFull)
	}
}
