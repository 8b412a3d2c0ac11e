package heap

import (
	"slices"
	"testing"

	"sluice/draws"
)

// plain is a heap by the words of the promises: a list in the order of pushing.
type plain[T any] struct {
	first func(a, b T) bool
	list  []T
}

// at is where the one stands that comes out next: the first ahead of which no other one comes.
func (p *plain[T]) at() int {
	return slices.IndexFunc(p.list, func(v T) bool {
		return !slices.ContainsFunc(p.list, func(x T) bool { return p.first(x, v) })
	})
}

func (p *plain[T]) peek() (T, bool) {
	if len(p.list) == 0 {
		var none T
		return none, false
	}
	return p.list[p.at()], true
}

func (p *plain[T]) pop() (T, bool) {
	v, ok := p.peek()
	if ok {
		at := p.at()
		p.list = slices.Concat(p.list[:at], p.list[at+1:])
	}
	return v, ok
}

func (p *plain[T]) copied() *plain[T] {
	return &plain[T]{first: p.first, list: slices.Clone(p.list)}
}

// numbered is a thing with a rank, and a number that no order looks at.
type numbered struct{ rank, number int }

func byRank(a, b numbered) bool { return a.rank < b.rank }

func TestAllRanksOfSome(t *testing.T) { // P6.3, P6.6
	for n := range 7 {
		ranks := make([]int, n)
		for {
			h, p := New(byRank), &plain[numbered]{first: byRank}
			for i, rank := range ranks {
				h.Push(numbered{rank, i})
				p.list = append(p.list, numbered{rank, i})
			}
			for range n {
				want, _ := p.pop()
				if got, ok := h.Pop(); got != want || !ok {
					t.Fatalf("ranks %v: Pop: %v, %v, want %v", ranks, got, ok, want)
				}
			}
			if !counted(ranks, n) {
				break
			}
		}
	}
}

// counted goes on to the next list of numbers below n; false: there was none left.
func counted(l []int, n int) bool {
	for i := range l {
		if l[i]++; l[i] < n {
			return true
		}
		l[i] = 0
	}
	return false
}

// orders is some, of which each looks at a part of a thing alone.
func orders() []func(a, b numbered) bool {
	return []func(a, b numbered) bool{
		byRank,
		func(a, b numbered) bool { return a.rank > b.rank },
		func(a, b numbered) bool { return a.rank%3 < b.rank%3 },
		func(a, b numbered) bool { return a.rank%2 == 1 && b.rank%2 == 0 },
		func(a, b numbered) bool { return a.rank/4 > b.rank/4 },
		never[numbered],
	}
}

func TestAnyCallsGoByTheWords(t *testing.T) { // P6.2, P6.3, P6.5
	for which, first := range orders() {
		for seed := range uint64(60) {
			next := draws.Numbers(seed)
			heaps, plains := []*Heap[numbered]{New(first)}, []*plain[numbered]{{first: first}}
			for number := range 200 {
				i := next(len(heaps))
				h, p := heaps[i], plains[i]
				switch act := next(20); {
				case act < 10:
					v := numbered{next(12), number}
					h.Push(v)
					p.list = append(p.list, v)
				case act < 15:
					got, ok := h.Pop()
					if want, wantOK := p.pop(); got != want || ok != wantOK {
						t.Fatalf("order %d, seed %d: Pop: %v, %v, want %v, %v", which, seed, got, ok, want, wantOK)
					}
				case act < 19:
					got, ok := h.Peek()
					if want, wantOK := p.peek(); got != want || ok != wantOK {
						t.Fatalf("order %d, seed %d: Peek: %v, %v, want %v, %v", which, seed, got, ok, want, wantOK)
					}
				case len(heaps) < 4:
					heaps, plains = append(heaps, h.Copy()), append(plains, p.copied())
				}
				for j := range heaps {
					if heaps[j].Len() != len(plains[j].list) {
						t.Fatalf("order %d, seed %d: Len %d of %d", which, seed, heaps[j].Len(), len(plains[j].list))
					}
				}
			}
		}
	}
}

// drains fails the test, if the heap gives other things than these, each as often as it stands here, or another number of them.
func drains(t *testing.T, h *Heap[int], want []int) {
	t.Helper()
	var got []int
	for range want {
		if h.Len() != len(want)-len(got) {
			t.Fatalf("Len %d of %d", h.Len(), len(want)-len(got))
		}
		if _, ok := h.Peek(); !ok {
			t.Fatal("Peek: none, though there are some")
		}
		v, ok := h.Pop()
		if !ok {
			t.Fatal("Pop: none, though there are some")
		}
		got = append(got, v)
	}
	isEmpty(t, h)
	slices.Sort(got)
	if want = slices.Sorted(slices.Values(want)); !slices.Equal(got, want) {
		t.Fatalf("came out: %v, want %v", got, want)
	}
}

func TestNoOrderOfFew(t *testing.T) { // P6.4
	h := New(always[int])
	pushes(h, 1, 2, 3)
	drains(t, h, []int{1, 2, 3})
	// Every answer that there is, to every two of three things.
	for bits := range 1 << 9 {
		first := func(a, b int) bool { return bits>>(3*a+b)&1 == 1 }
		for _, l := range [][]int{{0, 1, 2}, {2, 1, 0, 1, 2}, {1, 1, 0, 0, 2, 2, 1}} {
			h := New(first)
			pushes(h, l...)
			drains(t, h, l)
		}
	}
}

func TestNoOrderOfMany(t *testing.T) { // P6.4
	asked := 0
	next := draws.Numbers(5)
	for name, first := range map[string]func(a, b int) bool{
		"always true":                always[int],
		"always false":               never[int],
		"by turns":                   func(a, b int) bool { asked++; return asked%2 == 1 },
		"two of three":               func(a, b int) bool { asked++; return asked%3 > 0 },
		"drawn":                      func(a, b int) bool { return next(2) == 0 },
		"not ahead":                  func(a, b int) bool { return a <= b },
		"round":                      func(a, b int) bool { return (b-a+9)%9 < 4 },
		"apart, and alike to others": func(a, b int) bool { return a+3 < b },
	} {
		t.Run(name, func(t *testing.T) {
			for n := range 70 {
				h := New(first)
				in := map[int]int{}
				for i := range 3 * n {
					v := i * i % (n + 1)
					in[v]++
					h.Push(v)
					if i%4 == 3 {
						v, ok := h.Pop()
						if in[v]--; !ok || in[v] < 0 {
							t.Fatalf("Pop: %d, %v: it isn't there", v, ok)
						}
					}
				}
				var left []int
				for v, often := range in {
					left = append(left, slices.Repeat([]int{v}, often)...)
				}
				drains(t, h, left)
			}
		})
	}
}

func TestTheSameCallsBringTheSameAnswers(t *testing.T) { // P6.5, P3
	const n = 5
	for seed := range uint64(200) {
		next := draws.Numbers(seed)
		// A table drawn at will: mostly it is no order.
		var table [n][n]bool
		for a := range n {
			for b := range n {
				table[a][b] = next(2) == 0
			}
		}
		first := func(a, b int) bool { return table[a][b] }
		h, again := New(first), New(first)
		for range 15 {
			v := next(n)
			h.Push(v)
			again.Push(v)
		}
		c := h.Copy()
		for range 40 {
			if v := next(n); next(2) == 0 {
				h.Push(v)
				c.Push(v)
				again.Push(v)
			}
			peeked, _ := h.Peek()
			want, ok := h.Pop()
			for _, other := range []*Heap[int]{c, again} {
				if got, is := other.Peek(); got != peeked || is != ok {
					t.Fatalf("seed %d: Peek: %d, %v, want %d, %v", seed, got, is, peeked, ok)
				}
				if got, is := other.Pop(); got != want || is != ok {
					t.Fatalf("seed %d: Pop: %d, %v, want %d, %v", seed, got, is, want, ok)
				}
			}
		}
	}
}
