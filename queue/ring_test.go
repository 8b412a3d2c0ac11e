package queue

import (
	"slices"
	"testing"
)

func TestARingOfAnything(t *testing.T) { // P19.2: the ring by itself
	var words ring[string]
	if len(words.list()) != 0 {
		t.Errorf("list of none: %v", words.list())
	}
	for _, w := range []string{"a", "b", "", "c"} {
		words.put(w)
	}
	if v := words.take(); v != "a" || !slices.Equal(words.list(), []string{"b", "", "c"}) {
		t.Errorf("take: %q, then %q", v, words.list())
	}
	words.put("d")
	words.put("e")
	for _, want := range []string{"b", "", "c", "d", "e"} {
		if v := words.take(); v != want {
			t.Errorf("take: %q, want %q", v, want)
		}
	}
	if words.many != 0 || len(words.room) != 0 {
		t.Errorf("%d left, in room for %d", words.many, len(words.room))
	}
}

func TestARingGoesRound(t *testing.T) { // P19.2: neither Put nor Take moves the others, while there is room
	var r ring[int]
	for i := range 6 {
		r.put(i)
	}
	room := &r.room[0]
	for i := range 1000 {
		if v := r.take(); v != i {
			t.Fatalf("take: %d, want %d", v, i)
		}
		r.put(6 + i)
		if &r.room[0] != room {
			t.Fatalf("round %d: there is another room", i)
		}
	}
}

func TestWhatWasTakenIsNotKept(t *testing.T) { // the language's rule 8
	var r ring[*int]
	for i := range 100 {
		r.put(&[]int{i}[0])
		if i%3 == 2 {
			if v := r.take(); slices.Contains(r.room[:cap(r.room)], v) {
				t.Fatalf("%d, which was taken, is kept", *v)
			}
		}
	}
	for r.many > 0 {
		if v := r.take(); slices.Contains(r.room[:cap(r.room)], v) {
			t.Fatalf("%d, which was taken, is kept", *v)
		}
	}
}

func TestARingKeepsLittleMoreRoomThanItNeeds(t *testing.T) { // the language's rule 8
	var r ring[int]
	fits := func() {
		t.Helper()
		if len(r.room) < r.many || len(r.room) > 4*r.many+1 {
			t.Fatalf("%d are there, in room for %d", r.many, len(r.room))
		}
	}
	for i := range 5000 {
		r.put(i)
		fits()
	}
	for range 4990 {
		r.take()
		fits()
	}
	for i := range 50000 {
		r.put(i)
		r.take()
		fits()
	}
	for r.many > 0 {
		r.take()
		fits()
	}
	if len(r.room) != 0 {
		t.Errorf("an empty one keeps room for %d", len(r.room))
	}
}

func TestAPlaceThatWasDrainedKeepsNothing(t *testing.T) { // the language's rule 8
	q := begin(t, 1)
	puts(t, q, numbered(0, 0, 100)...)
	drains(t, q, 0, numbered(0, 0, 100)...)
	if kept := cap(q.rings[0].room); kept != 0 {
		t.Errorf("room for %d is kept", kept)
	}
}
