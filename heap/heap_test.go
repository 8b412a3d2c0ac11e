package heap

import (
	"cmp"
	"slices"
	"testing"
)

type pair struct {
	key  int
	name string
}

func byKey(a, b pair) bool { return a.key < b.key }

func never[T any](a, b T) bool { return false }

func always[T any](a, b T) bool { return true }

// pushes puts some in, one after the other.
func pushes[T any](h *Heap[T], l ...T) {
	for _, v := range l {
		h.Push(v)
	}
}

// peeks fails the test, if Peek answers otherwise, or changes how many there are.
func peeks[T comparable](t *testing.T, h *Heap[T], want T) {
	t.Helper()
	long := h.Len()
	if got, ok := h.Peek(); got != want || !ok {
		t.Errorf("Peek: %v, %v, want %v", got, ok, want)
	}
	if h.Len() != long {
		t.Errorf("Peek makes %d of %d", h.Len(), long)
	}
}

// pops fails the test, if these aren't what comes next, one by one; Peek tells each one ahead of that, as often as it is asked.
func pops[T comparable](t *testing.T, h *Heap[T], want ...T) {
	t.Helper()
	for _, w := range want {
		long := h.Len()
		peeks(t, h, w)
		peeks(t, h, w)
		if got, ok := h.Pop(); got != w || !ok {
			t.Errorf("Pop: %v, %v, want %v", got, ok, w)
		}
		if h.Len() != long-1 {
			t.Errorf("Pop makes %d of %d", h.Len(), long)
		}
	}
}

// isEmpty fails the test, if there is one.
func isEmpty[T comparable](t *testing.T, h *Heap[T]) {
	t.Helper()
	var zero T
	for range 2 {
		if v, ok := h.Pop(); v != zero || ok {
			t.Errorf("Pop of none: %v, %v", v, ok)
		}
		if v, ok := h.Peek(); v != zero || ok {
			t.Errorf("Peek of none: %v, %v", v, ok)
		}
		if h.Len() != 0 {
			t.Errorf("Len of none: %d", h.Len())
		}
	}
}

func TestNewIsEmpty(t *testing.T) { // P6.1, P6.3
	h := New(cmp.Less[int])
	if h == nil {
		t.Fatal("New answers nil")
	}
	isEmpty(t, h)
	pushes(h, 2, 1)
	pops(t, h, 1, 2)
}

func TestNumbers(t *testing.T) { // P6.2, P6.3, P6.6
	h := New(cmp.Less[int])
	for i, v := range []int{3, 1, 2, 1} {
		h.Push(v)
		if h.Len() != i+1 {
			t.Errorf("Len %d behind %d pushes", h.Len(), i+1)
		}
	}
	pops(t, h, 1, 1, 2, 3)
	isEmpty(t, h)
}

func TestEmptyAgain(t *testing.T) { // P6.3
	h := New(cmp.Less[int])
	for _, l := range [][]int{{5}, {4, 6}, {9, 8, 7}, {1, 1, 1, 1}} {
		isEmpty(t, h)
		pushes(h, l...)
		if h.Len() != len(l) {
			t.Errorf("Len %d of %v", h.Len(), l)
		}
		pops(t, h, slices.Sorted(slices.Values(l))...)
		isEmpty(t, h)
	}
}

func TestZeroValuesAreThingsToo(t *testing.T) { // P6.2, P6.3
	h := New(cmp.Less[int])
	pushes(h, 0, 0, 1, 0, -1)
	pops(t, h, -1, 0, 0, 0, 1)
	isEmpty(t, h)
	type none struct{}
	g := New(never[none])
	pushes(g, none{}, none{})
	pops(t, g, none{}, none{})
	isEmpty(t, g)
}

func TestPeekTellsWhatCameToBeTheFirst(t *testing.T) { // P6.3
	h := New(cmp.Less[int])
	for _, x := range []struct{ push, want int }{{5, 5}, {7, 5}, {3, 3}, {3, 3}, {4, 3}, {1, 1}} {
		h.Push(x.push)
		peeks(t, h, x.want)
	}
	pops(t, h, 1, 3)
	h.Push(2)
	pops(t, h, 2, 3, 4)
	h.Push(6)
	pops(t, h, 5, 6, 7)
	isEmpty(t, h)
}

func TestAPartOfAThingAlone(t *testing.T) { // P6.3, P6.6
	h := New(byKey)
	pushes(h, pair{1, "a"}, pair{0, "b"}, pair{1, "c"}, pair{0, "d"})
	pops(t, h, pair{0, "b"}, pair{0, "d"}, pair{1, "a"}, pair{1, "c"})
	isEmpty(t, h)
	g := New(func(a, b pair) bool { return len(a.name) > len(b.name) })
	pushes(g, pair{1, "x"}, pair{2, "xyz"}, pair{3, ""}, pair{4, "y"}, pair{5, "abc"}, pair{6, ""})
	pops(t, g, pair{2, "xyz"}, pair{5, "abc"}, pair{1, "x"}, pair{4, "y"}, pair{3, ""}, pair{6, ""})
	isEmpty(t, g)
}

func TestAlikeOneBehindTheOther(t *testing.T) { // P6.3, P6.6
	// All of them are alike by never: it is an order, too.
	for n := range 40 {
		h := New(never[int])
		var l []int
		for v := range n {
			l = append(l, v*7%n)
		}
		pushes(h, l...)
		pops(t, h, l...)
		isEmpty(t, h)
	}
}

func TestAlikeWithPopsInBetween(t *testing.T) { // P6.3
	h := New(never[int])
	next, out := 0, 0
	for round := range 60 {
		for range round % 5 {
			h.Push(next)
			next++
		}
		for range min(round%4, h.Len()) {
			pops(t, h, out)
			out++
		}
	}
	if out == 0 || h.Len() != next-out {
		t.Errorf("Len %d of %d less %d", h.Len(), next, out)
	}
	// A thing that went out and is pushed again stands behind those that stayed.
	g := New(byKey)
	pushes(g, pair{1, "a"}, pair{1, "b"}, pair{1, "c"}, pair{2, "d"})
	v, _ := g.Pop()
	pushes(g, v, pair{2, "e"}, pair{0, "f"})
	pops(t, g, pair{0, "f"}, pair{1, "b"})
	pushes(g, pair{1, "b"}, pair{2, "d"})
	pops(t, g, pair{1, "c"}, pair{1, "a"}, pair{1, "b"}, pair{2, "d"}, pair{2, "e"}, pair{2, "d"})
	isEmpty(t, g)
}

func TestThingsOfOtherTypes(t *testing.T) { // P6.2, P6.3, P6.6
	words := New(cmp.Less[string])
	pushes(words, "sluice", "", "gate", "weir", "gat")
	pops(t, words, "", "gat", "gate", "sluice", "weir")
	isEmpty(t, words)

	arrays := New(func(a, b [2]uint8) bool { return a[1] < b[1] })
	pushes(arrays, [2]uint8{0, 255}, [2]uint8{9, 0}, [2]uint8{8, 0})
	pops(t, arrays, [2]uint8{9, 0}, [2]uint8{8, 0}, [2]uint8{0, 255})

	anything := New(func(a, b any) bool { _, s := a.(string); _, i := b.(int); return s && i })
	pushes[any](anything, 4, "x", 3, "y")
	pops[any](t, anything, "x", "y", 4, 3)
	isEmpty(t, anything)

	lists := New(func(a, b []int) bool { return len(a) < len(b) })
	pushes(lists, []int{1, 2}, nil, []int{3})
	for _, want := range [][]int{nil, {3}, {1, 2}} {
		if v, ok := lists.Pop(); !slices.Equal(v, want) || !ok {
			t.Errorf("Pop: %v, %v, want %v", v, ok, want)
		}
	}

	calls := New(func(a, b func() int) bool { return a() < b() })
	pushes(calls, func() int { return 8 }, func() int { return 2 })
	for _, want := range []int{2, 8} {
		if f, ok := calls.Pop(); !ok || f() != want {
			t.Errorf("Pop: another function than that of %d", want)
		}
	}
	if f, ok := calls.Pop(); f != nil || ok {
		t.Error("Pop of none: a function")
	}
}

func TestSomeThousands(t *testing.T) { // P6.2, P6.3, P6.6
	type numbered struct{ key, turn int }
	h := New(func(a, b numbered) bool { return a.key < b.key })
	var l []numbered
	x := 1
	for i := range 20000 {
		x = (x*75 + 74) % 65537
		l = append(l, numbered{x % 300, i})
	}
	pushes(h, l...)
	if h.Len() != len(l) {
		t.Errorf("Len %d of %d", h.Len(), len(l))
	}
	slices.SortStableFunc(l, func(a, b numbered) int { return cmp.Compare(a.key, b.key) })
	for i, want := range l {
		if got, ok := h.Pop(); got != want || !ok || h.Len() != len(l)-1-i {
			t.Fatalf("Pop %d: %v, %v, Len %d, want %v", i, got, ok, h.Len(), want)
		}
	}
	isEmpty(t, h)
}
