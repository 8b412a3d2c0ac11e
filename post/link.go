package post

// link keeps what is on one link, behind the room of some that were taken off already.
type link[T any] struct {
	things []T
	taken  int
}

// on is what is on the link, from the front, in the link's own memory.
func (l *link[T]) on() []T { return l.things[l.taken:] }

func (l *link[T]) put(v T) { l.things = append(l.things, v) }

// drop takes the first one off, where there is one.
func (l *link[T]) drop() {
	// Its room must not keep what it points to.
	clear(l.things[l.taken : l.taken+1])
	l.taken++
	// No more than those that were taken are ever moved, thus many drops cost no more than as many puts; and the room goes with what was in it.
	if l.taken >= len(l.on()) {
		*l = l.copied()
	}
}

// copied is another link with the same on it, in memory of its own.
func (l *link[T]) copied() link[T] {
	return link[T]{things: append([]T(nil), l.on()...)}
}
