package rest

import (
	"slices"

	"sluice/api"
	"sluice/world"
)

// course is how a round went.
type course struct {
	idle    bool // it left all as it was
	refused bool // some step was
}

// fair goes through both halves of a round.
func fair(w *world.World, deliver, steps picker) course {
	given := give(w, deliver, slices.Concat(batches(w), messages(w)))
	changed, refused := stepAll(w, steps)
	return course{idle: given == 0 && changed == 0, refused: refused > 0}
}

// stepAll lets each worker step once: how many steps have changed something, and how many were refused. A step that has done anything has used a message or a capability, and what it made of that is at other stamps: so its changes tell.
func stepAll(w *world.World, pick picker) (changed, refused int) {
	var left []int
	for self := range w.Workers() {
		left = append(left, self)
	}
	for len(left) > 0 {
		i := pick(len(left))
		x, e := w.Do(world.Act{Kind: world.Step, W: left[i]})
		left = slices.Delete(left, i, i+1)
		if e != api.OK {
			refused++
		}
		if len(x.Changes) > 0 {
			changed++
		}
	}
	return changed, refused
}
