package worker

import (
	"sluice/api"
	"sluice/ledger"
)

// Front is a place's front in the view.
func (w *Worker) Front(place int) []api.Time {
	if w == nil {
		return nil
	}
	return w.view.Front(place)
}

// Open: is a time open at a place in the view?
func (w *Worker) Open(place int, t api.Time) bool {
	return w != nil && w.view.Open(place, t)
}

// Counts is all stamps whose count in the view is not 0.
func (w *Worker) Counts() []api.Change {
	if w == nil {
		return nil
	}
	return w.view.Counts()
}

// Tokens is the tokens that stand at this worker, by places, then in the order of telling.
func (w *Worker) Tokens() []api.Change {
	if w == nil {
		return nil
	}
	tokens := ledger.New()
	for place := range w.g.Places() {
		for _, m := range w.waiting.List(place) {
			tokens.Make(api.Stamp{At: place, T: m.T})
		}
	}
	for _, h := range w.caps.All() {
		tokens.Make(h.S)
	}
	for node, input := range w.inputs {
		if t, open := input.Epoch(); open {
			tokens.Make(w.leaving(node, t))
		}
	}
	for node, added := range w.sums {
		for _, t := range added.Times() {
			tokens.Make(w.leaving(node, t))
		}
	}
	return tokens.Changes()
}

// Epoch is an input's epoch, and whether it is open.
func (w *Worker) Epoch(node int) (api.Time, bool) {
	if w == nil {
		return api.Time{}, false
	}
	return w.inputs[node].Epoch()
}

// Held is the capabilities that are held by number.
func (w *Worker) Held() []api.Held {
	if w == nil {
		return nil
	}
	return w.caps.All()
}

// Waiting is how many messages wait at a place.
func (w *Worker) Waiting(place int) int {
	if w == nil {
		return 0
	}
	return w.waiting.Len(place)
}

// Caught is what a probe has caught.
func (w *Worker) Caught(node int) []api.Caught {
	if w == nil {
		return nil
	}
	return w.probes[node].All()
}

// leaving is the stamp of a time at the only out-place of a node.
func (w *Worker) leaving(node int, t api.Time) api.Stamp {
	return api.Stamp{At: w.g.Out(node, 0), T: t}
}
