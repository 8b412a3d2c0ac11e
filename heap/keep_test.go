package heap

import (
	"cmp"
	"slices"
	"testing"
)

func TestFirstIsAskedOfWhatWasPushedAndAtWorkAlone(t *testing.T) { // P6.1
	atWork, asked, in := false, 0, map[int]int{}
	first := func(a, b int) bool {
		asked++
		if !atWork {
			t.Error("first is asked while no Push, Pop or Peek is at work")
		}
		if in[a] == 0 || in[b] == 0 {
			t.Errorf("first is asked about %d and %d, of which one isn't there", a, b)
		}
		return a < b
	}
	h := New(first)
	work := func(call func()) {
		atWork = true
		call()
		atWork = false
	}
	for i := range 300 {
		v := 1 + i*37%101
		in[v]++
		work(func() { h.Push(v) })
		if i%3 == 2 {
			work(func() { h.Peek() })
			v := 0
			work(func() { v, _ = h.Pop() })
			in[v]--
		}
		h.Len()
		h = h.Copy()
	}
	for h.Len() > 0 {
		v := 0
		work(func() { v, _ = h.Pop() })
		in[v]--
	}
	before := asked
	work(func() { h.Pop(); h.Peek() })
	if asked != before {
		t.Error("first is asked though there is none")
	}
	if before == 0 {
		t.Error("first is never asked")
	}
}

func TestCopyBehindTwoPops(t *testing.T) { // P6.5
	h := New(byKey)
	pushes(h, pair{1, "a"}, pair{0, "b"}, pair{1, "c"}, pair{0, "d"})
	pops(t, h, pair{0, "b"}, pair{0, "d"})
	c := h.Copy()
	pops(t, c, pair{1, "a"})
	pops(t, h, pair{1, "a"})
	pops(t, h, pair{1, "c"})
	isEmpty(t, h)
	pops(t, c, pair{1, "c"})
	isEmpty(t, c)
}

func TestCopyAndThenCalls(t *testing.T) { // P6.5, P5
	begin := func() *Heap[pair] {
		h := New(byKey)
		pushes(h, pair{2, "a"}, pair{1, "b"}, pair{2, "c"}, pair{0, "d"}, pair{1, "e"})
		pops(t, h, pair{0, "d"})
		return h
	}
	left := []pair{{1, "b"}, {1, "e"}, {2, "a"}, {2, "c"}}
	all := func(h *Heap[pair]) { pops(t, h, left...) }
	calls := []struct {
		act  func(h *Heap[pair])
		want []pair
	}{
		{func(h *Heap[pair]) {}, left},
		{func(h *Heap[pair]) { h.Push(pair{0, "f"}) }, []pair{{0, "f"}, {1, "b"}, {1, "e"}, {2, "a"}, {2, "c"}}},
		{func(h *Heap[pair]) { h.Push(pair{1, "g"}) }, []pair{{1, "b"}, {1, "e"}, {1, "g"}, {2, "a"}, {2, "c"}}},
		{func(h *Heap[pair]) { pushes(h, pair{2, "h"}, pair{2, "i"}) }, []pair{{1, "b"}, {1, "e"}, {2, "a"}, {2, "c"}, {2, "h"}, {2, "i"}}},
		{func(h *Heap[pair]) { h.Pop() }, left[1:]},
		{func(h *Heap[pair]) { h.Pop(); h.Pop(); h.Push(pair{1, "j"}) }, []pair{{1, "j"}, {2, "a"}, {2, "c"}}},
		{func(h *Heap[pair]) { all(h); h.Push(pair{9, "k"}) }, []pair{{9, "k"}}},
		{all, nil},
	}
	for _, one := range calls {
		for _, other := range calls {
			h := begin()
			c := h.Copy()
			one.act(h)
			other.act(c)
			pops(t, h, one.want...)
			isEmpty(t, h)
			pops(t, c, other.want...)
			isEmpty(t, c)
		}
	}
}

func TestCopyOfAnEmptyOne(t *testing.T) { // P6.5
	h := New(byKey)
	c := h.Copy()
	if c == nil {
		t.Fatal("Copy of an empty heap answers nil")
	}
	isEmpty(t, c)
	pushes(c, pair{1, "a"}, pair{0, "b"}, pair{1, "c"})
	isEmpty(t, h)
	h.Push(pair{1, "d"})
	d := c.Copy().Copy()
	pops(t, c, pair{0, "b"}, pair{1, "a"}, pair{1, "c"})
	pops(t, d, pair{0, "b"}, pair{1, "a"}, pair{1, "c"})
	pops(t, h, pair{1, "d"})
}

func TestThingsAreKeptAsTheyAre(t *testing.T) { // P6.5, P2
	h := New(func(a, b []int) bool { return a[0] < b[0] })
	one, two := []int{1, 10}, []int{2, 20}
	pushes(h, two, one)
	c := h.Copy()
	one[1] = 11
	for _, x := range []*Heap[[]int]{h, c} {
		v, _ := x.Peek()
		if &v[0] != &one[0] || v[1] != 11 {
			t.Errorf("Peek: %v is not the list that was pushed", v)
		}
		v, _ = x.Pop()
		w, _ := x.Pop()
		if &v[0] != &one[0] || &w[0] != &two[0] {
			t.Errorf("Pop: %v, %v are not the lists that were pushed", v, w)
		}
	}
	if !slices.Equal(one, []int{1, 11}) || !slices.Equal(two, []int{2, 20}) {
		t.Errorf("what was pushed is changed: %v, %v", one, two)
	}
}

func TestTwoHeapsHaveNothingToDoWithEachOther(t *testing.T) { // P5
	h, g := New(cmp.Less[int]), New(func(a, b int) bool { return a > b })
	pushes(h, 1, 3)
	isEmpty(t, g)
	pushes(g, 4, 6)
	h.Push(2)
	pops(t, g, 6)
	pops(t, h, 1, 2, 3)
	isEmpty(t, h)
	pops(t, g, 4)
}

func TestNilHeap(t *testing.T) { // P1
	var h *Heap[int]
	h.Push(1)
	isEmpty(t, h)
	if h.Copy() != nil {
		t.Error("Copy of a nil heap is one")
	}
	var g *Heap[pair]
	g.Push(pair{1, "a"})
	isEmpty(t, g)
	if g.Copy() != nil {
		t.Error("Copy of a nil heap is one")
	}
}

// panics tells what a call panics with.
func panics(call func()) (with any) {
	defer func() { with = recover() }()
	call()
	return nil
}

func TestAPanicOfFirstGoesThrough(t *testing.T) { // P1, P3
	// At each number of questions first panics once; the heap is as it was then.
	left := 1 << 20
	first := func(a, b pair) bool {
		if left--; left < 0 {
			panic("no order")
		}
		return byKey(a, b)
	}
	begin := func() *Heap[pair] {
		left = 1 << 20
		h := New(first)
		pushes(h, pair{3, "a"}, pair{2, "b"}, pair{3, "c"}, pair{1, "d"}, pair{2, "e"}, pair{1, "f"}, pair{3, "g"})
		return h
	}
	want := []pair{{1, "d"}, {1, "f"}, {2, "b"}, {2, "e"}, {3, "a"}, {3, "c"}, {3, "g"}}
	for name, call := range map[string]func(h *Heap[pair]){
		"Push": func(h *Heap[pair]) { h.Push(pair{0, "h"}) },
		"Pop":  func(h *Heap[pair]) { h.Pop() },
	} {
		gone := 0
		for n := range 20 {
			h := begin()
			left = n
			with := panics(func() { call(h) })
			if with == nil {
				break
			}
			gone++
			left = 1 << 20
			if with != "no order" || h.Len() != len(want) {
				t.Errorf("%s panics with %v, and %d are left", name, with, h.Len())
			}
			h.Push(pair{1, "i"})
			pops(t, h, slices.Concat(want[:2], []pair{{1, "i"}}, want[2:])...)
			isEmpty(t, h)
		}
		if gone == 0 {
			t.Errorf("%s keeps first's panic", name)
		}
	}
}

func TestWhatWentOutIsNotKept(t *testing.T) { // the language's rule 8
	h := New(func(a, b *int) bool { return *a < *b })
	for i := range 50 {
		h.Push(&[]int{i * 7 % 50}[0])
	}
	for range 50 {
		v, _ := h.Pop()
		for _, x := range h.items[:cap(h.items)] {
			if x.thing == v {
				t.Fatalf("%d, which went out, is kept", *v)
			}
		}
	}
}
