package post

import (
	"math"
	"slices"
	"sync"
	"testing"

	"sluice/api"
)

// isNobody asks a nil post by all calls: each one answers zero values.
func isNobody[T comparable](t *testing.T, p *Post[T], v T) {
	t.Helper()
	var zero T
	for _, from := range []int{0, 1, -1, 8, math.MaxInt, math.MinInt} {
		for _, to := range []int{0, 1, -1, 8, math.MaxInt, math.MinInt} {
			if e := p.Put(from, to, v); e != api.OK {
				t.Errorf("Put(%d, %d): %d", from, to, e)
			}
			if v, e := p.Take(from, to); v != zero || e != api.OK {
				t.Errorf("Take(%d, %d): %v, %d", from, to, v, e)
			}
			for _, i := range append(beyond(0), 0) {
				if v, e := p.Look(from, to, i); v != zero || e != api.OK {
					t.Errorf("Look(%d, %d, %d): %v, %d", from, to, i, v, e)
				}
			}
			if p.Len(from, to) != 0 {
				t.Errorf("Len(%d, %d): %d", from, to, p.Len(from, to))
			}
		}
	}
	isBusy(t, p, 0)
	if p.Workers() != 0 || p.Copy() != nil {
		t.Errorf("Workers: %d, Copy: %v", p.Workers(), p.Copy())
	}
}

func TestANilOne(t *testing.T) { // P1
	isNobody[string](t, nil, "a")
	isNobody[int](t, nil, 1)
	isNobody[*int](t, nil, new(int))
	// What New answers beside an error may be asked, too.
	p, _ := New[int](0)
	isNobody(t, p, 1)
}

func TestOneThatNewDidNotMake(t *testing.T) { // P1: no answer of it is promised, but that each call ends without a panic
	for _, p := range []*Post[int]{{}, new(Post[int]).Copy()} {
		for from := -1; from <= api.MaxWorkers; from++ {
			for to := -1; to <= api.MaxWorkers; to++ {
				p.Put(from, to, 1)
				p.Look(from, to, 0)
				p.Take(from, to)
				p.Len(from, to)
			}
		}
		p.Total()
		p.Busy()
		p.Workers()
		p.Copy().Busy()
	}
}

// some is a post of three workers with words on three links; from each of them some were taken off already.
func some(t *testing.T) *Post[string] {
	p := begin[string](t, 3)
	puts(t, p, 0, 1, "x", "a", "b", "c")
	puts(t, p, 2, 0, "y", "d")
	puts(t, p, 1, 2, "z", "z", "z", "e", "f")
	puts(t, p, 2, 1, "w")
	takes(t, p, 0, 1, "x")
	takes(t, p, 2, 0, "y")
	takes(t, p, 1, 2, "z", "z", "z")
	takes(t, p, 2, 1, "w")
	return p
}

// hasSome tells that on the links there is what some has put there, and what is said here to be on its first one.
func hasSome(t *testing.T, p *Post[string], first ...string) {
	t.Helper()
	isOn(t, p, 0, 1, first...)
	isOn(t, p, 2, 0, "d")
	isOn(t, p, 1, 2, "e", "f")
	isEmpty(t, p, 2, 1)
	isEmpty(t, p, 0, 2)
	isEmpty(t, p, 1, 0)
	busy := [][2]int{{1, 2}, {2, 0}}
	if len(first) > 0 {
		busy = slices.Concat([][2]int{{0, 1}}, busy)
	}
	isBusy(t, p, 3+len(first), busy...)
	if p.Workers() != 3 {
		t.Errorf("Workers: %d, want 3", p.Workers())
	}
}

func TestBusyIsNewMemory(t *testing.T) { // P16.3, P2
	p := some(t)
	one, two := p.Busy(), p.Busy()
	grown := append(one, [2]int{2, 1})
	for _, l := range [][][2]int{one[:cap(one)], grown[:cap(grown)]} {
		for i := range l {
			l[i] = [2]int{0, 2}
		}
	}
	want := [][2]int{{0, 1}, {1, 2}, {2, 0}}
	if !slices.Equal(two, want) {
		t.Errorf("another answer has changed: %v", two)
	}
	hasSome(t, p, "a", "b", "c")
	puts(t, p, 0, 2, "g")
	takes(t, p, 2, 0, "d")
	if !slices.Equal(two, want) {
		t.Errorf("what was answered has changed behind later calls: %v", two)
	}
	isBusy(t, p, 6, [2]int{0, 1}, [2]int{0, 2}, [2]int{1, 2})
}

func TestBusyByFromThenByTo(t *testing.T) { // P16.3
	p := begin[int](t, 8)
	// Put backwards and across: the order of putting gives another one.
	links := [][2]int{{7, 6}, {0, 7}, {7, 0}, {3, 4}, {0, 1}, {4, 3}, {3, 0}, {6, 7}}
	for i, x := range links {
		for range i + 1 {
			puts(t, p, x[0], x[1], i)
		}
	}
	isBusy(t, p, 36, [2]int{0, 1}, [2]int{0, 7}, [2]int{3, 0}, [2]int{3, 4}, [2]int{4, 3}, [2]int{6, 7}, [2]int{7, 0}, [2]int{7, 6})
	takes(t, p, 0, 7, 1)
	isBusy(t, p, 35, [2]int{0, 1}, [2]int{0, 7}, [2]int{3, 0}, [2]int{3, 4}, [2]int{4, 3}, [2]int{6, 7}, [2]int{7, 0}, [2]int{7, 6})
	takes(t, p, 0, 7, 1)
	takes(t, p, 7, 6, 0)
	isBusy(t, p, 33, [2]int{0, 1}, [2]int{3, 0}, [2]int{3, 4}, [2]int{4, 3}, [2]int{6, 7}, [2]int{7, 0})
}

func TestWhatIsRefusedChangesNothing(t *testing.T) { // P3, P4
	p := some(t)
	for i, refused := range []func() api.Errno{
		func() api.Errno { return p.Put(0, 0, "n") },
		func() api.Errno { return p.Put(0, 3, "n") },
		func() api.Errno { return p.Put(-1, 1, "n") },
		func() api.Errno { _, e := p.Take(1, 1); return e },
		func() api.Errno { _, e := p.Take(3, 1); return e },
		func() api.Errno { _, e := p.Take(2, 1); return e },
		func() api.Errno { _, e := p.Take(0, 2); return e },
		func() api.Errno { _, e := p.Look(0, 1, 3); return e },
		func() api.Errno { _, e := p.Look(0, 1, -1); return e },
		func() api.Errno { _, e := p.Look(2, 2, 0); return e },
	} {
		if refused() == api.OK {
			t.Errorf("call %d is not refused", i)
		}
		hasSome(t, p, "a", "b", "c")
	}
}

func TestCopyAndThenCalls(t *testing.T) { // P16.3, P5
	calls := []struct {
		act  func(p *Post[string])
		want []string
	}{
		{func(p *Post[string]) {}, []string{"a", "b", "c"}},
		{func(p *Post[string]) { puts(t, p, 0, 1, "g") }, []string{"a", "b", "c", "g"}},
		{func(p *Post[string]) { puts(t, p, 0, 1, "h", "i", "j", "k", "l") }, []string{"a", "b", "c", "h", "i", "j", "k", "l"}},
		{func(p *Post[string]) { takes(t, p, 0, 1, "a") }, []string{"b", "c"}},
		{func(p *Post[string]) { takes(t, p, 0, 1, "a", "b"); puts(t, p, 0, 1, "m") }, []string{"c", "m"}},
		{func(p *Post[string]) { takes(t, p, 0, 1, "a", "b", "c"); isEmpty(t, p, 0, 1) }, nil},
		{func(p *Post[string]) { takes(t, p, 0, 1, "a", "b", "c"); puts(t, p, 0, 1, "n") }, []string{"n"}},
		{func(p *Post[string]) { puts(t, p, 0, 2, "o"); takes(t, p, 0, 2, "o") }, []string{"a", "b", "c"}},
		{func(p *Post[string]) { isNoLink(t, p, 1, 1, "q"); isEmpty(t, p, 1, 0) }, []string{"a", "b", "c"}},
	}
	for _, one := range calls {
		for _, other := range calls {
			p := some(t)
			c := p.Copy()
			one.act(p)
			hasSome(t, c, "a", "b", "c")
			other.act(c)
			hasSome(t, p, one.want...)
			hasSome(t, c, other.want...)
			takes(t, p, 0, 1, one.want...)
			takes(t, c, 0, 1, other.want...)
		}
	}
}

func TestCopiesOfCopies(t *testing.T) { // P16.3, P5
	p := some(t)
	c := p.Copy()
	d := c.Copy()
	e := p.Copy().Copy().Copy()
	puts(t, p, 0, 1, "p")
	puts(t, c, 0, 1, "c")
	puts(t, d, 0, 1, "d")
	takes(t, c, 0, 1, "a")
	f := c.Copy()
	takes(t, f, 0, 1, "b", "c")
	hasSome(t, p, "a", "b", "c", "p")
	hasSome(t, c, "b", "c", "c")
	hasSome(t, d, "a", "b", "c", "d")
	hasSome(t, e, "a", "b", "c")
	hasSome(t, f, "c")
}

func TestCopyOfAPostWithNothingOnIt(t *testing.T) { // P16.3
	for workers := 1; workers <= api.MaxWorkers; workers++ {
		p := begin[int](t, workers)
		c := p.Copy()
		if c == nil || c == p || c.Workers() != workers {
			t.Fatalf("Copy of %d workers: %v", workers, c)
		}
		isBusy(t, c, 0)
		isNoLink(t, c, 0, workers, 1)
		isNoLink(t, c, 0, 0, 1)
		for to := 1; to < workers; to++ {
			puts(t, c, 0, to, to)
			isEmpty(t, p, 0, to)
			puts(t, p, to, 0, -to)
			isEmpty(t, c, to, 0)
		}
	}
	// One that was emptied.
	p := begin[int](t, 2)
	puts(t, p, 0, 1, 1, 2, 3)
	takes(t, p, 0, 1, 1, 2, 3)
	c := p.Copy()
	puts(t, p, 0, 1, 4)
	isEmpty(t, c, 0, 1)
	puts(t, c, 0, 1, 5)
	isOn(t, p, 0, 1, 4)
	isOn(t, c, 0, 1, 5)
}

func TestThingsAreKeptAsTheyAre(t *testing.T) { // P16.3, P2
	p := begin[[]int](t, 2)
	room := []int{1, 10, 77}
	one, two := room[:2], []int{2}
	for _, l := range [][]int{one, nil, two} {
		if e := p.Put(0, 1, l); e != api.OK {
			t.Errorf("Put: %d", e)
		}
	}
	c := p.Copy()
	one[1] = 11
	for _, x := range []*Post[[]int]{p, c} {
		v, e := x.Look(0, 1, 0)
		if e != api.OK || &v[0] != &one[0] || v[1] != 11 || cap(v) != 3 {
			t.Errorf("Look: %v is not the list that was put", v)
		}
		v, _ = x.Take(0, 1)
		none, _ := x.Take(0, 1)
		w, _ := x.Take(0, 1)
		if &v[0] != &one[0] || none != nil || &w[0] != &two[0] {
			t.Errorf("Take: %v, %v, %v are not the lists that were put", v, none, w)
		}
		if v, e := x.Take(0, 1); v != nil || e != api.ErrEmpty {
			t.Errorf("Take of none: %v, %d", v, e)
		}
	}
	if !slices.Equal(room, []int{1, 11, 77}) || !slices.Equal(two, []int{2}) {
		t.Errorf("what was put is changed: %v, %v", room, two)
	}
}

func TestStructsAreKeptAsValues(t *testing.T) { // P16.3, P2
	type box struct {
		n    [2]int
		name *string
	}
	name := "a"
	b := box{[2]int{1, 2}, &name}
	p := begin[box](t, 2)
	puts(t, p, 0, 1, b)
	c := p.Copy()
	b.n[0] = 9
	name = "b" // what a thing points to is the caller's, and shared
	for _, x := range []*Post[box]{p, c} {
		v, e := x.Look(0, 1, 0)
		if e != api.OK || v.n != [2]int{1, 2} || *v.name != "b" {
			t.Errorf("Look: %v, %d", v, e)
		}
		v.n[1] = 8
		takes(t, x, 0, 1, box{[2]int{1, 2}, &name})
	}
}

func TestTwoHaveNothingToDoWithEachOther(t *testing.T) { // P5
	p, q := begin[int](t, 3), begin[int](t, 2)
	puts(t, p, 0, 1, 1, 3)
	isEmpty(t, q, 0, 1)
	puts(t, q, 0, 1, 4, 6)
	puts(t, p, 0, 1, 2)
	takes(t, q, 0, 1, 4)
	takes(t, p, 0, 1, 1, 3, 2)
	isEmpty(t, p, 0, 1)
	isOn(t, q, 0, 1, 6)
	isNoLink(t, q, 0, 2, 5)
	isEmpty(t, p, 0, 2)
}

func TestManyAtOnce(t *testing.T) { // P3, P5
	shared := some(t)
	var group sync.WaitGroup
	for range 8 {
		group.Go(func() {
			own := shared.Copy()
			takes(t, own, 0, 1, "a", "b")
			puts(t, own, 0, 1, "g")
			hasSome(t, own, "c", "g")
			isOn(t, shared, 0, 1, "a", "b", "c")
			isBusy(t, shared, 6, [2]int{0, 1}, [2]int{1, 2}, [2]int{2, 0})
		})
	}
	group.Wait()
	hasSome(t, shared, "a", "b", "c")
}

func TestWhatWasTakenIsNotKept(t *testing.T) { // the language's rule 8
	p := begin[*int](t, 2)
	for i := range 50 {
		puts(t, p, 0, 1, &[]int{i}[0])
	}
	l := &p.links[0][1]
	for range 50 {
		v, _ := p.Take(0, 1)
		if slices.Contains(l.things[:cap(l.things)], v) {
			t.Fatalf("%d, which was taken, is kept", *v)
		}
		puts(t, p, 1, 0, v)
	}
	if cap(l.things) != 0 {
		t.Errorf("an empty link keeps room for %d", cap(l.things))
	}
}

func TestALinkKeepsLittleMoreRoomThanItNeeds(t *testing.T) { // the language's rule 8
	p := begin[int](t, 2)
	l := &p.links[0][1]
	for i := range 5000 {
		puts(t, p, 0, 1, i)
	}
	for i := range 4990 {
		takes(t, p, 0, 1, i)
		if on := p.Len(0, 1); len(l.things) > 2*on+1 {
			t.Fatalf("%d are on the link, in room for %d", on, len(l.things))
		}
	}
	// A link on which few are at a time, however many come and go.
	for i := 5000; i < 50000; i++ {
		puts(t, p, 0, 1, i)
		takes(t, p, 0, 1, i-10)
	}
	if cap(l.things) > 100 {
		t.Errorf("10 are on the link, in room for %d", cap(l.things))
	}
}
