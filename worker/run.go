package worker

import (
	"slices"

	"sluice/api"
	"sluice/stamp"
	"sluice/sums"
)

// isRun tells whether nodes of a kind are run.
func isRun(kind int) bool { return kind >= api.KMap && kind <= api.KProbe }

// run runs a node of such a kind.
func (a *act) run(node int) {
	l := a.taken(node)
	switch a.w.kind(node) {
	case api.KSum:
		a.runSum(node, l)
	case api.KProbe:
		a.runProbe(node, l)
	default:
		a.runFlow(node, l)
	}
	a.keepRoom()
}

// taken takes all that waits at a node. All of it is taken ahead of what comes of it, which may wait at the same node.
func (a *act) taken(node int) []api.Message {
	var l []api.Message
	for port := range a.w.nodes[node].Ins {
		l = append(l, a.all(a.w.g.In(node, port))...)
	}
	return l
}

func (a *act) runFlow(node int, l []api.Message) {
	for _, m := range l {
		if t, r, goesOn := a.w.flows[node].Do(m.T, m.R); goesOn {
			a.leave(a.w.leaving(node, t), r)
		}
	}
}

func (a *act) runProbe(node int, l []api.Message) {
	a.last(func() {
		for _, m := range l {
			a.w.probes[node].Catch(api.Caught{T: m.T, R: m.R})
		}
	})
}

// runSum adds what came, and tells the times that are done in the view, which has not changed since the act began. What came is added apart, and comes to the sum itself last: of that nothing can be taken away by which it could be set back, but a whole time.
func (a *act) runSum(node int, l []api.Message) {
	held := a.w.sums[node]
	front := a.w.view.Front(a.w.g.In(node, 0))
	apart := a.addApart(node, l)
	for _, t := range held.Ready(front) {
		told := held.Tell(t)
		a.back(func() { addAll(held, t, told) })
		addAll(apart, t, told)
	}
	for _, t := range apart.Ready(front) {
		s := a.w.leaving(node, t)
		a.use(s)
		for _, r := range apart.Tell(t) {
			a.leave(s, r)
		}
	}
	a.last(func() {
		for _, t := range apart.Times() {
			addAll(held, t, apart.Tell(t))
		}
	})
}

// addApart adds up messages by themselves; the times that the sum didn't hold have a capability from now on.
func (a *act) addApart(node int, l []api.Message) *sums.Sums {
	times := a.w.sums[node].Times()
	apart := sums.New()
	for _, m := range l {
		if !apart.Add(m.T, m.R) {
			continue
		}
		if _, had := slices.BinarySearchFunc(times, m.T, stamp.Compare); !had {
			a.make(a.w.leaving(node, m.T))
		}
	}
	return apart
}

func addAll(to *sums.Sums, t api.Time, l []api.Record) {
	for _, r := range l {
		to.Add(t, r)
	}
}
