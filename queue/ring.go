package queue

// ring is things one behind the other in a room, in which they go round from its end to its beginning: so neither putting nor taking moves the others.
type ring[T any] struct {
	room  []T
	first int // where the first one stands
	many  int
}

// put puts a thing behind all others.
func (r *ring[T]) put(v T) {
	if r.many == len(r.room) {
		r.move(2*r.many + 1)
	}
	r.room[r.at(r.many)] = v
	r.many++
}

// take takes the first one out; one must be there.
func (r *ring[T]) take() T {
	v := r.room[r.first]
	// The room must not keep what went out, nor be far greater than what is in it.
	clear(r.room[r.first : r.first+1])
	r.first = r.at(1)
	r.many--
	if 4*r.many <= len(r.room) {
		r.move(2 * r.many)
	}
	return v
}

// list is all that are there, the first one first, in new memory.
func (r *ring[T]) list() []T {
	list := make([]T, r.many)
	r.cut(list)
	return list
}

// move moves all into a new room, in which they stand from its beginning on; there must be enough of it.
func (r *ring[T]) move(size int) {
	room := make([]T, size)
	r.cut(room)
	r.room, r.first = room, 0
}

// cut copies all into a list: those up to the room's end, then those that have gone round.
func (r *ring[T]) cut(list []T) {
	end := min(r.first+r.many, len(r.room))
	n := copy(list, r.room[r.first:end])
	copy(list[n:], r.room[:r.many-n])
}

// at is where the thing with that number stands, or comes to stand.
func (r *ring[T]) at(number int) int { return (r.first + number) % len(r.room) }
