package caps

import (
	"slices"
	"testing"

	"sluice/api"
	"sluice/draws"
)

// plain is capabilities by the words of the promises: all that were ever minted, one behind the other.
type plain struct {
	most int
	ever []one
}

type one struct {
	stamp api.Stamp
	held  bool
}

func (p *plain) all() []api.Held {
	var all []api.Held
	for i, o := range p.ever {
		if o.held {
			all = append(all, api.Held{ID: i + 1, S: o.stamp})
		}
	}
	return all
}

func (p *plain) mint(s api.Stamp) (int, api.Errno) {
	if len(p.all()) >= max(p.most, 0) {
		return 0, api.ErrFull
	}
	p.ever = append(p.ever, one{s, true})
	return len(p.ever), api.OK
}

func (p *plain) find(id int) (*one, api.Errno) {
	if id < 1 || id > len(p.ever) || !p.ever[id-1].held {
		return nil, api.ErrCap
	}
	return &p.ever[id-1], api.OK
}

func (p *plain) get(id int) (api.Stamp, api.Errno) {
	o, e := p.find(id)
	if e != api.OK {
		return api.Stamp{}, e
	}
	return o.stamp, api.OK
}

func (p *plain) lower(id int, t api.Time) api.Errno {
	o, e := p.find(id)
	if e != api.OK {
		return e
	}
	if was := o.stamp.T; was.A > t.A || was.B > t.B || was.C > t.C {
		return api.ErrBack
	}
	o.stamp.T = t
	return api.OK
}

func (p *plain) drop(id int) api.Errno {
	o, e := p.find(id)
	if e == api.OK {
		o.held = false
	}
	return e
}

func (p *plain) copied() *plain { return &plain{p.most, slices.Clone(p.ever)} }

// pair is one and what is told of it.
type pair struct {
	c *Caps
	p *plain
}

func TestDrawnCalls(t *testing.T) { // P13.1 to P13.7, P3
	var often [api.ErrBack + 1]int
	for seed := range uint64(60) {
		next := draws.Numbers(seed)
		most := next(9) - 1
		pairs := []pair{{New(most), &plain{most: most}}}
		drawn := func() api.Time {
			return api.Time{A: uint64(next(3)), B: uint64(next(3)), C: uint64(next(2))}
		}
		for i := range 400 {
			x := pairs[next(len(pairs))]
			id := next(len(x.p.ever)+3) - 1
			if l := x.p.all(); len(l) > 0 && next(2) == 0 {
				id = l[next(len(l))].ID
			}
			var e, want api.Errno
			switch next(8) {
			case 0, 1, 2:
				s := api.Stamp{At: next(5) - 1, T: drawn()}
				var n, m int
				n, e = x.c.Mint(s)
				if m, want = x.p.mint(s); n != m {
					t.Fatalf("seed %d, call %d: Mint(%v): %d, want %d", seed, i, s, n, m)
				}
			case 3:
				var s, u api.Stamp
				s, e = x.c.Get(id)
				if u, want = x.p.get(id); s != u {
					t.Fatalf("seed %d, call %d: Get(%d): %v, want %v", seed, i, id, s, u)
				}
			case 4, 5:
				to := drawn()
				e, want = x.c.Lower(id, to), x.p.lower(id, to)
			case 6:
				e, want = x.c.Drop(id), x.p.drop(id)
			case 7:
				if len(pairs) < 5 {
					pairs = append(pairs, pair{x.c.Copy(), x.p.copied()})
				}
			}
			if e != want {
				t.Fatalf("seed %d, call %d: %d, want %d", seed, i, e, want)
			}
			often[e]++
			for j, y := range pairs {
				if all := y.c.All(); !slices.Equal(all, y.p.all()) {
					t.Fatalf("seed %d, call %d, of the pair %d: All: %v, want %v", seed, i, j, all, y.p.all())
				}
			}
		}
	}
	for _, e := range []api.Errno{api.OK, api.ErrFull, api.ErrCap, api.ErrBack} {
		if often[e] < 500 {
			t.Errorf("the draws answer %d only %d times", e, often[e])
		}
	}
}
