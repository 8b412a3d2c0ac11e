package worker

import (
	"slices"

	"sluice/api"
)

// spot is a place as it was ahead of an act. Messages are taken at its front and come behind, so those that waited there are the first of all that the act has taken and left.
type spot struct {
	waited int
	taken  []api.Message
}

// spot is that of a place; it is set back from when it is asked for first.
func (a *act) spot(place int) *spot {
	s, known := a.spots[place]
	if !known {
		s = &spot{waited: a.w.waiting.Len(place)}
		a.spots[place] = s
		a.back(func() { a.fill(place, s) })
	}
	return s
}

// fill lets just those messages wait at a place that did.
func (a *act) fill(place int, s *spot) {
	left, _ := a.w.waiting.Drain(place)
	for _, m := range slices.Concat(s.taken, left)[:s.waited] {
		a.w.waiting.Put(m)
	}
}

// put lets a message wait, at an in-place of the graph.
func (a *act) put(m api.Message) {
	a.spot(m.At)
	must(a.w.waiting.Put(m))
}

// first takes the message that waits longest at a place.
func (a *act) first(place int) api.Message {
	s := a.spot(place)
	m, e := a.w.waiting.Take(place)
	must(e)
	a.took(s, m)
	return m
}

// all takes all messages that wait at a place.
func (a *act) all(place int) []api.Message {
	s := a.spot(place)
	l, e := a.w.waiting.Drain(place)
	must(e)
	a.took(s, l...)
	return l
}

func (a *act) took(s *spot, l ...api.Message) {
	s.taken = append(s.taken, l...)
	a.more -= len(l)
	for _, m := range l {
		a.use(api.Stamp{At: m.At, T: m.T})
	}
}
