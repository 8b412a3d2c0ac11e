package cycle

import (
	"slices"
	"testing"

	"sluice/api"
	"sluice/draws"
	"sluice/path"
)

// plain is a graph's empty steps: step[p][q] tells whether one leads from p to q.
type plain [][]bool

func plainSteps(g api.Graph) plain {
	l, places := draws.Steps(g)
	step := make(plain, places)
	for p := range step {
		step[p] = make([]bool, places)
	}
	for _, h := range l {
		if h.By.A == 0 && h.By.B == 0 && h.By.C == 0 {
			step[h.From][h.To] = true
		}
	}
	return step
}

// order goes through the words of P10.1; it ends early, if no place may come next.
func (step plain) order() []int {
	var l []int
	may := func(q int) bool {
		for p := range step {
			if step[p][q] && !slices.Contains(l, p) {
				return false
			}
		}
		return !slices.Contains(l, q)
	}
	for len(l) < len(step) {
		q := slices.IndexFunc(upTo(len(step)), may)
		if q < 0 {
			break
		}
		l = append(l, q)
	}
	return l
}

// rank is the longest way that ends at a place: all of them are gone back, so it is for small graphs without an empty cycle.
func (step plain) rank(q int) int {
	most := 0
	for p := range step {
		if step[p][q] {
			most = max(most, step.rank(p)+1)
		}
	}
	return most
}

// rings are all empty cycles that begin with a place behind those of a way: for small graphs.
func (step plain) rings(way []int) [][]int {
	var l [][]int
	last := way[len(way)-1]
	for q := range step {
		if !step[last][q] {
			continue
		}
		if q == way[0] {
			l = append(l, slices.Clone(way))
		} else if !slices.Contains(way, q) {
			l = append(l, step.rings(append(slices.Clone(way), q))...)
		}
	}
	return l
}

// find goes through the words of P10.3: of all empty cycles, the one that is to be told; and how many begin with its first place.
func (step plain) find() ([]int, int) {
	for p := range step {
		if l := step.rings([]int{p}); len(l) > 0 {
			return slices.MinFunc(l, func(a, b []int) int {
				if len(a) != len(b) {
					return len(a) - len(b)
				}
				return slices.Compare(a, b)
			}), len(l)
		}
	}
	return nil, 0
}

func TestSmallGraphsAgainstTheWords(t *testing.T) { // P10.1 to P10.4
	none, some, several := 0, 0, 0
	for seed := range 20000 {
		raw := draws.Graph(draws.Numbers(uint64(seed)), 8, 13)
		g, step := made(t, "drawn", raw), plainSteps(raw)
		ring, many := step.find()
		want, errno, ranks := step.order(), api.OK, []int(nil)
		if many > 0 {
			want, errno = nil, api.ErrCycle
			some++
		} else {
			none += min(len(raw.Edges), 1)
			for q := range step {
				ranks = append(ranks, step.rank(q))
			}
		}
		if many > 1 {
			several++
		}
		if l, e := Order(g); e != errno || !slices.Equal(l, want) {
			t.Fatalf("seed %d: Order = %v, %d, want %v, %d: %v", seed, l, e, want, errno, raw)
		}
		if l, e := Rank(g); e != errno || !slices.Equal(l, ranks) {
			t.Fatalf("seed %d: Rank = %v, %d, want %v, %d: %v", seed, l, e, ranks, errno, raw)
		}
		if l := Find(g); !slices.Equal(l, ring) {
			t.Fatalf("seed %d: Find = %v, want %v: %v", seed, l, ring, raw)
		}
	}
	if none < 3000 || some < 3000 || several < 300 {
		t.Errorf("drawn: %d without an empty cycle, %d with one, %d with several from one place", none, some, several)
	}
}

// back is, by place, the fewest steps from there to q (-1, if there are none): to q itself at least one.
func (step plain) back(q int) []int {
	far := slices.Repeat([]int{-1}, len(step))
	for many, layer := 1, []int{q}; len(layer) > 0; many++ {
		var next []int
		for p := range step {
			if far[p] < 0 && slices.ContainsFunc(layer, func(r int) bool { return step[p][r] }) {
				next = append(next, p)
			}
		}
		for _, p := range next {
			far[p] = many
		}
		layer = next
	}
	return far
}

// along is what P10.3 asks for, by how far each place is: for graphs of any size.
func (step plain) along() []int {
	for first := range step {
		far := step.back(first)
		if far[first] < 0 {
			continue
		}
		l := []int{first}
		for left := far[first] - 1; left > 0; left-- {
			last := l[len(l)-1]
			l = append(l, slices.IndexFunc(upTo(len(step)), func(q int) bool { return step[last][q] && far[q] == left }))
		}
		return l
	}
	return nil
}

// ranksHold tells whether each place's rank is one more than the greatest of those from which a step leads to it.
func (step plain) ranksHold(ranks []int) bool {
	for q := range step {
		want := 0
		for p := range step {
			if step[p][q] {
				want = max(want, ranks[p]+1)
			}
		}
		if ranks[q] != want {
			return false
		}
	}
	return len(ranks) == len(step)
}

func TestGreatGraphsAgainstTheWords(t *testing.T) { // P10.1 to P10.4
	none, some := 0, 0
	for seed := range 1500 {
		raw := draws.Graph(draws.Numbers(uint64(seed)), api.MaxNodes+1, api.MaxEdges+1)
		g, step := made(t, "drawn", raw), plainSteps(raw)
		order, e := Order(g)
		ranks, f := Rank(g)
		ring := Find(g)
		if !slices.Equal(ring, step.along()) || e != f {
			t.Fatalf("seed %d: Find = %v, want %v; errors %d, %d: %v", seed, ring, step.along(), e, f, raw)
		}
		want := step.order()
		switch {
		case len(want) < len(step):
			some++
			if e != api.ErrCycle || len(order) != 0 || len(ranks) != 0 || len(ring) == 0 {
				t.Fatalf("seed %d: %v, %v, %d, %v: %v", seed, order, ranks, e, ring, raw)
			}
		default:
			none++
			if e != api.OK || !slices.Equal(order, want) || !step.ranksHold(ranks) || len(ring) != 0 {
				t.Fatalf("seed %d: %v, %v, %d, %v: %v", seed, order, ranks, e, ring, raw)
			}
		}
	}
	if none < 300 || some < 300 {
		t.Errorf("drawn: %d without an empty cycle, %d with one", none, some)
	}
}

// turns goes once round every cycle of edges and connections that begins with the first step of a way, and tells its path; not ok: it is none.
func turns(l []draws.Step, way []draws.Step, tell func(p api.Path, ok bool)) {
	last := way[len(way)-1]
	if last.To == way[0].From {
		var p api.Path
		ok := true
		for _, h := range way {
			if ok {
				p, ok = path.Then(p, h.By)
			}
		}
		tell(p, ok)
		return
	}
	for _, h := range l {
		if h.From == last.To && !slices.ContainsFunc(way, func(o draws.Step) bool { return o.From == h.From }) {
			turns(l, append(slices.Clone(way), h), tell)
		}
	}
}

func TestWhatACycleGoesBy(t *testing.T) { // P10.4
	advance, nothing, stand := 0, 0, 0
	for seed := range 6000 {
		raw := draws.Graph(draws.Numbers(uint64(seed)), 6, 9)
		_, e := Order(made(t, "drawn", raw))
		stood := false
		l, _ := draws.Steps(raw)
		for _, h := range l {
			turns(l, []draws.Step{h}, func(p api.Path, ok bool) {
				switch {
				case !ok:
					nothing++
				case p == api.Path{}:
					stand, stood = stand+1, true
				default:
					advance++
				}
			})
		}
		if stood != (e == api.ErrCycle) {
			t.Fatalf("seed %d: Order says %d, and some cycle stands still: %v: %v", seed, e, stood, raw)
		}
	}
	if min(advance, nothing, stand) < 300 {
		t.Errorf("drawn: %d cycles that advance, %d that are none, %d that stand still", advance, nothing, stand)
	}
}
