package rest

import "sluice/world"

// picker picks one of so many things (1 at least), by its number.
type picker func(many int) int

// drawn is a picker that goes by picks; behind their end it is the first thing that is picked.
func drawn(picks []int) picker {
	used := 0
	return func(many int) int {
		if used == len(picks) {
			return 0
		}
		x := picks[used] % many
		used++
		if x < 0 {
			return x + many
		}
		return x
	}
}

// link is one on which something is.
type link struct {
	kind     int // of the act by which a thing comes off it
	from, to int
	left     int // how many things it still has to give
}

// batches is the links for batches on which something is, in order.
func batches(w *world.World) []link { return links(w, world.Hear, w.Batches) }

// messages is the links for messages on which something is, in order.
func messages(w *world.World) []link { return links(w, world.Pass, w.Messages) }

func links(w *world.World, kind int, many func(from, to int) int) []link {
	var l []link
	for from := range w.Workers() {
		for to := range w.Workers() {
			if n := many(from, to); n > 0 {
				l = append(l, link{kind, from, to, n})
			}
		}
	}
	return l
}

// busy is how many links still have something to give.
func busy(l []link) int {
	many := 0
	for _, one := range l {
		if one.left > 0 {
			many++
		}
	}
	return many
}

// give lets all that the links have to give come to the workers, the first thing of a link whenever it is picked: how many things. To hear and to pass puts nothing on any link.
func give(w *world.World, pick picker, l []link) int {
	given := 0
hearing:
	for {
		many := busy(l)
		if many == 0 {
			break hearing
		}
		nth := pick(many)
		for i, one := range l {
			switch {
			case one.left == 0:
			case nth > 0:
				nth--
			default:
				w.Do(world.Act{Kind: one.kind, W: one.to, From: one.from})
				l[i].left--
				given++
				continue hearing
			}
		}
	}
	return given
}
