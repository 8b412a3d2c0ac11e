package post

import (
	"slices"
	"testing"

	"sluice/api"
	"sluice/draws"
)

// plain is a post by the words of the promises: all that was ever put, in the order of putting, over all links.
type plain struct {
	workers int
	ever    []one
}

type one struct {
	from, to, thing int
	taken           bool
}

func (p *plain) isLink(from, to int) bool {
	return from >= 0 && from < p.workers && to >= 0 && to < p.workers && from != to
}

// on is where those stand that are on a link.
func (p *plain) on(from, to int) []int {
	var at []int
	for i, o := range p.ever {
		if o.from == from && o.to == to && !o.taken {
			at = append(at, i)
		}
	}
	return at
}

func (p *plain) put(from, to, v int) api.Errno {
	if !p.isLink(from, to) {
		return api.ErrWorker
	}
	p.ever = append(p.ever, one{from, to, v, false})
	return api.OK
}

func (p *plain) look(from, to, i int) (int, api.Errno) {
	if !p.isLink(from, to) {
		return 0, api.ErrWorker
	}
	at := p.on(from, to)
	if i < 0 || i >= len(at) {
		return 0, api.ErrEmpty
	}
	return p.ever[at[i]].thing, api.OK
}

func (p *plain) take(from, to int) (int, api.Errno) {
	v, e := p.look(from, to, 0)
	if e == api.OK {
		p.ever[p.on(from, to)[0]].taken = true
	}
	return v, e
}

// busy is the links with something on them, and how many are on all links.
func (p *plain) busy() ([][2]int, int) {
	var busy [][2]int
	total := 0
	for from := range p.workers {
		for to := range p.workers {
			if n := len(p.on(from, to)); n > 0 {
				busy = append(busy, [2]int{from, to})
				total += n
			}
		}
	}
	return busy, total
}

func (p *plain) copied() *plain { return &plain{p.workers, slices.Clone(p.ever)} }

// pair is a post and what is to be told of it.
type pair struct {
	post  *Post[int]
	plain *plain
}

// drawn does one call of both, drawn by next, and tells how it was answered; false: not alike.
func (x pair) drawn(next func(below int) int) (api.Errno, bool) {
	from, to := next(x.plain.workers+2)-1, next(x.plain.workers+2)-1
	if busy, _ := x.plain.busy(); len(busy) > 0 && next(3) == 0 {
		link := busy[next(len(busy))]
		from, to = link[0], link[1]
	}
	var v, want int
	var e, wantE api.Errno
	switch next(9) {
	case 0, 1, 2, 3:
		thing := next(50) - 1
		e, wantE = x.post.Put(from, to, thing), x.plain.put(from, to, thing)
	case 4, 5, 6:
		v, e = x.post.Take(from, to)
		want, wantE = x.plain.take(from, to)
	default:
		i := next(len(x.plain.on(from, to))+3) - 1
		v, e = x.post.Look(from, to, i)
		want, wantE = x.plain.look(from, to, i)
	}
	return e, v == want && e == wantE
}

// same tells whether the two tell the same of themselves.
func (x pair) same() bool {
	busy, total := x.plain.busy()
	same := slices.Equal(x.post.Busy(), busy) && x.post.Total() == total && x.post.Workers() == x.plain.workers
	for from := -1; from <= x.plain.workers; from++ {
		for to := -1; to <= x.plain.workers; to++ {
			same = same && x.post.Len(from, to) == len(x.plain.on(from, to))
		}
	}
	return same
}

func TestDrawnCalls(t *testing.T) { // P16.1 to P16.4, P3, P5
	var often [api.ErrEmpty + 1]int
	for seed := range uint64(80) {
		next := draws.Numbers(seed)
		workers := 1 + int(seed)%api.MaxWorkers
		pairs := []pair{{begin[int](t, workers), &plain{workers: workers}}}
		for i := range 150 {
			at := next(len(pairs))
			e, alike := pairs[at].drawn(next)
			if !alike {
				t.Fatalf("seed %d, call %d, of the post %d: not by the words", seed, i, at)
			}
			often[e]++
			if len(pairs) < 4 && next(20) == 0 {
				pairs = append(pairs, pair{pairs[at].post.Copy(), pairs[at].plain.copied()})
			}
			for j, x := range pairs {
				if !x.same() {
					t.Fatalf("seed %d, call %d, of the post %d: Busy %v, Total %d", seed, i, j, x.post.Busy(), x.post.Total())
				}
			}
		}
	}
	for _, e := range []api.Errno{api.OK, api.ErrWorker, api.ErrEmpty} {
		if often[e] < 1000 {
			t.Errorf("the draws answer %d only %d times", e, often[e])
		}
	}
}

func TestWhatComesOffIsWhatWasPut(t *testing.T) { // P16.4
	for workers := 2; workers <= api.MaxWorkers; workers++ {
		next := draws.Numbers(uint64(workers))
		p := begin[int](t, workers)
		var in, out [api.MaxWorkers][api.MaxWorkers][]int
		for v := range 6000 {
			from, to := next(workers), next(workers)
			if from == to {
				continue
			}
			if next(5) > 1 {
				puts(t, p, from, to, v)
				in[from][to] = append(in[from][to], v)
			} else if v, e := p.Take(from, to); e == api.OK {
				out[from][to] = append(out[from][to], v)
			}
		}
		for p.Total() > 0 {
			busy := p.Busy()
			x := busy[next(len(busy))]
			v, e := p.Take(x[0], x[1])
			if e != api.OK {
				t.Fatalf("Take(%d, %d) of a busy link: %d", x[0], x[1], e)
			}
			out[x[0]][x[1]] = append(out[x[0]][x[1]], v)
		}
		for from := range workers {
			for to := range workers {
				if !slices.Equal(in[from][to], out[from][to]) {
					t.Errorf("from %d to %d: put %v, taken %v", from, to, in[from][to], out[from][to])
				}
			}
		}
	}
}

func TestTheSameCallsBringTheSameAnswers(t *testing.T) { // P3
	for seed := range uint64(20) {
		next, again := draws.Numbers(seed), draws.Numbers(seed)
		p, q := pair{begin[int](t, 4), &plain{workers: 4}}, pair{begin[int](t, 4), &plain{workers: 4}}
		for i := range 100 {
			e, _ := p.drawn(next)
			f, _ := q.drawn(again)
			if e != f || p.post.Total() != q.post.Total() || !slices.Equal(p.post.Busy(), q.post.Busy()) {
				t.Fatalf("seed %d, call %d: %d, %d", seed, i, e, f)
			}
		}
	}
}
