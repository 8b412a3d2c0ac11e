package post

import (
	"math"
	"slices"
	"testing"

	"sluice/api"
)

func begin[T any](t *testing.T, workers int) *Post[T] {
	t.Helper()
	p, e := New[T](workers)
	if p == nil || e != api.OK {
		t.Fatalf("New(%d): %v, %d", workers, p, e)
	}
	return p
}

func puts[T any](t *testing.T, p *Post[T], from, to int, l ...T) {
	t.Helper()
	for _, v := range l {
		if e := p.Put(from, to, v); e != api.OK {
			t.Errorf("Put(%d, %d, %v): %d", from, to, v, e)
		}
	}
}

func takes[T comparable](t *testing.T, p *Post[T], from, to int, l ...T) {
	t.Helper()
	for _, want := range l {
		if v, e := p.Take(from, to); v != want || e != api.OK {
			t.Errorf("Take(%d, %d): %v, %d, want %v", from, to, v, e, want)
		}
	}
}

// looks fails the test, if Look answers otherwise, or changes how many there are.
func looks[T comparable](t *testing.T, p *Post[T], from, to, i int, want T, wantE api.Errno) {
	t.Helper()
	long := p.Len(from, to)
	if v, e := p.Look(from, to, i); v != want || e != wantE {
		t.Errorf("Look(%d, %d, %d): %v, %d, want %v, %d", from, to, i, v, e, want, wantE)
	}
	if p.Len(from, to) != long {
		t.Errorf("Look makes %d of %d", p.Len(from, to), long)
	}
}

// beyond is numbers that none of so many has.
func beyond(many int) []int {
	return []int{-1, -2, many, many + 1, 1 << 32, -1 << 32, math.MaxInt, math.MaxInt - 1, math.MinInt, math.MinInt + 1}
}

// isOn asks by all calls that tell something about one link: these are on it, and no others.
func isOn[T comparable](t *testing.T, p *Post[T], from, to int, want ...T) {
	t.Helper()
	var zero T
	if p.Len(from, to) != len(want) {
		t.Errorf("Len(%d, %d): %d, want %d", from, to, p.Len(from, to), len(want))
	}
	for i, v := range want {
		looks(t, p, from, to, i, v, api.OK)
	}
	for _, i := range beyond(len(want)) {
		looks(t, p, from, to, i, zero, api.ErrEmpty)
	}
}

// isEmpty tells that nothing is on a link, and that asking for it changes nothing.
func isEmpty[T comparable](t *testing.T, p *Post[T], from, to int) {
	t.Helper()
	var zero T
	for range 2 {
		isOn(t, p, from, to)
		looks(t, p, from, to, 0, zero, api.ErrEmpty)
		if v, e := p.Take(from, to); v != zero || e != api.ErrEmpty {
			t.Errorf("Take(%d, %d) of none: %v, %d", from, to, v, e)
		}
	}
}

// isNoLink tells that there is no link, whatever else is wrong, and that asking for it changes nothing.
func isNoLink[T comparable](t *testing.T, p *Post[T], from, to int, v T) {
	t.Helper()
	var zero T
	total, busy := p.Total(), p.Busy()
	for range 2 {
		if e := p.Put(from, to, v); e != api.ErrWorker {
			t.Errorf("Put(%d, %d): %d, want ErrWorker", from, to, e)
		}
		if v, e := p.Take(from, to); v != zero || e != api.ErrWorker {
			t.Errorf("Take(%d, %d): %v, %d, want ErrWorker", from, to, v, e)
		}
		for _, i := range append(beyond(0), 0, 1) {
			if v, e := p.Look(from, to, i); v != zero || e != api.ErrWorker {
				t.Errorf("Look(%d, %d, %d): %v, %d, want ErrWorker", from, to, i, v, e)
			}
		}
		if p.Len(from, to) != 0 {
			t.Errorf("Len(%d, %d): %d", from, to, p.Len(from, to))
		}
	}
	isBusy(t, p, total, busy...)
}

func isBusy[T any](t *testing.T, p *Post[T], total int, want ...[2]int) {
	t.Helper()
	if p.Total() != total || !slices.Equal(p.Busy(), want) {
		t.Errorf("Total %d, Busy %v, want %d, %v", p.Total(), p.Busy(), total, want)
	}
}

func TestTheFirstTwoExamples(t *testing.T) { // P16.2, P16.3
	p := begin[string](t, 3)
	puts(t, p, 0, 1, "a", "b")
	puts(t, p, 2, 1, "c")
	isOn(t, p, 0, 1, "a", "b")
	isOn(t, p, 2, 1, "c")
	isBusy(t, p, 3, [2]int{0, 1}, [2]int{2, 1})
	looks(t, p, 0, 1, 1, "b", api.OK)
	looks(t, p, 0, 1, 2, "", api.ErrEmpty)
	looks(t, p, 0, 1, -1, "", api.ErrEmpty)

	takes(t, p, 0, 1, "a")
	isEmpty(t, p, 1, 0)
	takes(t, p, 0, 1, "b")
	isEmpty(t, p, 0, 1)
	takes(t, p, 2, 1, "c")
	isBusy(t, p, 0)
}

func TestTheOtherExamples(t *testing.T) { // P16.1, P16.2, P16.3
	p := begin[string](t, 3)
	for _, x := range [][2]int{{1, 1}, {0, 3}, {-1, 0}, {3, 0}, {0, 0}, {0, 9}} {
		isNoLink(t, p, x[0], x[1], "d")
	}
	for _, workers := range []int{0, 9} {
		if p, e := New[string](workers); p != nil || e != api.ErrArg {
			t.Errorf("New(%d): %v, %d", workers, p, e)
		}
	}
	one := begin[string](t, 1)
	isNoLink(t, one, 0, 0, "d")
}

func TestHowManyWorkers(t *testing.T) { // P16.1
	for workers := 1; workers <= 8; workers++ {
		p := begin[int](t, workers)
		if p.Workers() != workers {
			t.Errorf("Workers: %d, want %d", p.Workers(), workers)
		}
		isBusy(t, p, 0)
		for from := range workers {
			for to := range workers {
				if from != to {
					isEmpty(t, p, from, to)
				}
			}
		}
	}
	for _, workers := range []int{0, -1, -8, 9, 10, 64, 1 << 32, 1<<32 + 3, math.MaxInt, math.MinInt, math.MinInt + 3} {
		if p, e := New[int](workers); p != nil || e != api.ErrArg {
			t.Errorf("New(%d): %v, %d, want nil, ErrArg", workers, p, e)
		}
	}
}

func TestEveryPairOfNumbers(t *testing.T) { // P16.1, P16.2, P16.3, P16.4
	for workers := 1; workers <= api.MaxWorkers; workers++ {
		p := begin[[2]int](t, workers)
		links := [][2]int{}
		for from := -1; from <= workers; from++ {
			for to := -1; to <= workers; to++ {
				v := [2]int{from, to}
				if from < 0 || from >= workers || to < 0 || to >= workers || from == to {
					isNoLink(t, p, from, to, v)
					continue
				}
				isEmpty(t, p, from, to)
				puts(t, p, from, to, v, [2]int{to, from}, v)
				links = append(links, v)
				isBusy(t, p, 3*len(links), links...)
			}
		}
		if len(links) != workers*(workers-1) {
			t.Errorf("%d workers have %d links", workers, len(links))
		}
		for i, x := range links {
			isOn(t, p, x[0], x[1], x, [2]int{x[1], x[0]}, x)
			takes(t, p, x[0], x[1], x, [2]int{x[1], x[0]}, x)
			isEmpty(t, p, x[0], x[1])
			isBusy(t, p, 3*(len(links)-i-1), links[i+1:]...)
		}
		if p.Workers() != workers {
			t.Errorf("Workers: %d, want %d", p.Workers(), workers)
		}
	}
}

func TestNumbersFarBeyondTheWorkers(t *testing.T) { // P16.2, P16.3, P4
	for _, workers := range []int{1, 2, 3, 8} {
		p := begin[string](t, workers)
		far := append(beyond(workers), 8, 9, 64, -8)
		for _, x := range far {
			for _, y := range far {
				if x < 0 || x >= workers || y < 0 || y >= workers {
					isNoLink(t, p, x, y, "d")
				}
			}
			for w := range workers {
				if x < 0 || x >= workers {
					isNoLink(t, p, x, w, "d")
					isNoLink(t, p, w, x, "d")
				}
			}
		}
		isBusy(t, p, 0)
	}
}

func TestALinkEmptyAgainAndAgain(t *testing.T) { // P16.2, P16.4
	p := begin[int](t, 2)
	puts(t, p, 1, 0, -1)
	next := 0
	for _, many := range []int{1, 1, 2, 1, 3, 7, 0, 64, 5, 65, 1, 300, 2} {
		isEmpty(t, p, 0, 1)
		isBusy(t, p, 1, [2]int{1, 0})
		var l []int
		for range many {
			l = append(l, next)
			next++
		}
		puts(t, p, 0, 1, l...)
		isOn(t, p, 0, 1, l...)
		takes(t, p, 0, 1, l...)
	}
	isEmpty(t, p, 0, 1)
	isOn(t, p, 1, 0, -1)
}

func TestAnyPutsAndTakesOnOneLink(t *testing.T) { // P16.2, P16.4
	// So many are put in each round, so many are taken.
	for put := 1; put <= 7; put++ {
		for taken := 0; taken <= 7; taken++ {
			p := begin[int](t, 2)
			var on []int
			for round := range 40 {
				for i := range put {
					v := 100*round + i
					puts(t, p, 1, 0, v)
					on = append(on, v)
				}
				out := min(taken, len(on))
				takes(t, p, 1, 0, on[:out]...)
				on = on[out:]
				isOn(t, p, 1, 0, on...)
			}
			if len(on) == 0 {
				isEmpty(t, p, 1, 0)
			}
		}
	}
}

func TestLookAtEachOne(t *testing.T) { // P16.2
	p := begin[int](t, 4)
	for i := range 100 {
		puts(t, p, 3, 1, i)
	}
	for first := range 100 {
		looks(t, p, 3, 1, 0, first, api.OK)
		looks(t, p, 3, 1, 99-first, 99, api.OK)
		looks(t, p, 3, 1, 100-first, 0, api.ErrEmpty)
		looks(t, p, 3, 1, -1, 0, api.ErrEmpty)
		looks(t, p, 3, 1, math.MaxInt, 0, api.ErrEmpty)
		looks(t, p, 3, 1, math.MinInt, 0, api.ErrEmpty)
		for i := range 100 - first {
			looks(t, p, 3, 1, i, first+i, api.OK)
		}
		takes(t, p, 3, 1, first)
	}
	isEmpty(t, p, 3, 1)
}

func TestTheSameThingAgain(t *testing.T) { // P16.4
	p := begin[string](t, 2)
	puts(t, p, 0, 1, "a", "a", "", "a", "", "")
	puts(t, p, 1, 0, "", "a")
	isOn(t, p, 0, 1, "a", "a", "", "a", "", "")
	takes(t, p, 0, 1, "a", "a", "", "a")
	isBusy(t, p, 4, [2]int{0, 1}, [2]int{1, 0}) // zero values are on a link as others are
	takes(t, p, 0, 1, "", "")
	isEmpty(t, p, 0, 1)
	takes(t, p, 1, 0, "", "a")
	isEmpty(t, p, 1, 0)
}

func TestThingsOfOtherTypes(t *testing.T) { // P16.2, P16.4
	stamps := begin[api.Stamp](t, 2)
	puts(t, stamps, 0, 1, api.Stamp{At: 4, T: api.Time{B: 1}}, api.Stamp{})
	takes(t, stamps, 0, 1, api.Stamp{At: 4, T: api.Time{B: 1}}, api.Stamp{})
	isEmpty(t, stamps, 0, 1)

	type nothing struct{}
	none := begin[nothing](t, 2)
	puts(t, none, 0, 1, nothing{}, nothing{})
	isOn(t, none, 0, 1, nothing{}, nothing{})
	takes(t, none, 0, 1, nothing{}, nothing{})
	isEmpty(t, none, 0, 1)

	anything := begin[any](t, 2)
	puts[any](t, anything, 1, 0, 4, "x", nil, 'x', [1]int{3})
	isOn[any](t, anything, 1, 0, 4, "x", nil, 'x', [1]int{3})
	takes[any](t, anything, 1, 0, 4, "x", nil, 'x', [1]int{3})
	isEmpty(t, anything, 1, 0)

	calls := begin[func() int](t, 2)
	puts(t, calls, 0, 1, func() int { return 8 }, func() int { return 2 })
	for _, want := range []int{8, 2} {
		if f, e := calls.Take(0, 1); e != api.OK || f() != want {
			t.Errorf("Take: another function than that of %d", want)
		}
	}
	if f, e := calls.Take(0, 1); f != nil || e != api.ErrEmpty {
		t.Error("Take of none: a function")
	}

	posts := begin[*Post[int]](t, 2)
	inner := begin[int](t, 2)
	puts(t, posts, 0, 1, inner, nil, inner)
	puts(t, inner, 1, 0, 7)
	isOn(t, posts, 0, 1, inner, nil, inner)
	takes(t, posts, 0, 1, inner, nil, inner)
	isOn(t, inner, 1, 0, 7)
}

func TestManyThings(t *testing.T) { // P16.3, P16.4
	p := begin[int](t, 8)
	const many = 100000
	for i := range many {
		puts(t, p, 7, 0, i)
		puts(t, p, 0, 7, -i)
		if i%2 == 1 {
			takes(t, p, 7, 0, i/2)
		}
	}
	isBusy(t, p, many+many/2, [2]int{0, 7}, [2]int{7, 0})
	for i := range many / 2 {
		takes(t, p, 7, 0, many/2+i)
	}
	isEmpty(t, p, 7, 0)
	for i := range many {
		takes(t, p, 0, 7, -i)
	}
	isEmpty(t, p, 0, 7)
	isBusy(t, p, 0)
}
