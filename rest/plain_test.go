package rest

import (
	"math"
	"math/big"

	"sluice/api"
	"sluice/draws"
	"sluice/world"
)

// given is picks that were given, and how many of them are used up.
type given struct {
	l    []int
	used int
}

// of is which of so many things is picked.
func (p *given) of(many int) int {
	if p.used >= len(p.l) {
		return 0
	}
	p.used++
	// (Mod is never below 0.)
	return int(new(big.Int).Mod(big.NewInt(int64(p.l[p.used-1])), big.NewInt(int64(many))).Int64())
}

// onLinks is what is to be asked till all that is on links has come, link by link, in the order of the chapter.
func onLinks(w *world.World, kinds ...int) [][]world.Act {
	var l [][]world.Act
	for _, kind := range kinds {
		for from := range api.MaxWorkers {
			for to := range api.MaxWorkers {
				many := w.Batches(from, to)
				if kind == world.Pass {
					many = w.Messages(from, to)
				}
				var link []world.Act
				for range many {
					link = append(link, world.Act{Kind: kind, W: to, From: from})
				}
				l = append(l, link)
			}
		}
	}
	return withoutEmpty(l)
}

func withoutEmpty(l [][]world.Act) [][]world.Act {
	var m [][]world.Act
	for _, link := range l {
		if len(link) > 0 {
			m = append(m, link)
		}
	}
	return m
}

// plainDelivery is how many things have come.
func plainDelivery(w *world.World, p *given, kinds ...int) int {
	many := 0
	for l := onLinks(w, kinds...); len(l) > 0; l = withoutEmpty(l) {
		i := p.of(len(l))
		if _, e := w.Do(l[i][0]); e != api.OK {
			panic(e)
		}
		l[i] = l[i][1:]
		many++
	}
	return many
}

// plainRound tells whether some step was refused.
func plainRound(w *world.World, deliver, steps *given) bool {
	plainDelivery(w, deliver, world.Hear, world.Pass)
	refused := false
	stepped := map[int]bool{}
	for len(stepped) < w.Workers() {
		nth := steps.of(w.Workers() - len(stepped))
		for self := range w.Workers() {
			if stepped[self] {
				continue
			}
			if nth == 0 {
				_, e := w.Do(step(self))
				refused = refused || e != api.OK
				stepped[self] = true
			}
			nth--
		}
	}
	return refused
}

// plainStill tells whether nothing is left; the fronts alone tell of tokens, too.
func plainStill(w *world.World) bool {
	for self := range w.Workers() {
		for place := range w.Graph().Places() {
			if len(w.Front(self, place)) > 0 {
				return false
			}
		}
	}
	return len(w.Tokens())+len(onLinks(w, world.Hear, world.Pass)) == 0
}

// plainRest goes through all its rounds one by one; and tells whether some step was refused.
func plainRest(w *world.World, most int, p *given) (int, api.Errno, bool) {
	n, refused := 0, false
	for ; n < most && !plainStill(w); n++ {
		if plainRound(w, p, p) {
			refused = true
		}
	}
	switch {
	case !plainStill(w):
		return n, api.ErrHeavy, refused
	case refused:
		return n, api.ErrFull, refused
	}
	return n, api.OK, refused
}

// plainEnough goes down from each token, by the steps that records take.
func plainEnough(w *world.World) (int, api.Errno) {
	raw := w.Graph().Raw()
	var nodeOf []api.Node // by places
	e := api.OK
	for node, n := range raw.Nodes {
		for self := range w.Workers() {
			if _, open := w.Epoch(self, node); open && e == api.OK {
				e = api.ErrEpoch
			}
		}
		if n.Kind == api.KFree {
			e = api.ErrNode
		}
		for range n.Ins + n.Outs {
			nodeOf = append(nodeOf, n)
		}
	}
	if e != api.OK {
		return 0, e
	}
	steps, _ := draws.Steps(raw)
	met := map[api.Stamp]bool{}
	var down func(s api.Stamp)
	down = func(s api.Stamp) {
		if met[s] || len(met) > 4096 {
			return
		}
		met[s] = true
		for _, one := range steps {
			if u, is := plainOn(one.By, s.T, nodeOf[s.At].Bound); one.From == s.At && is {
				down(api.Stamp{At: one.To, T: u})
			}
		}
	}
	for _, c := range w.Tokens() {
		down(c.S)
	}
	if len(met) > 4096 {
		return 0, api.ErrHeavy
	}
	return len(met), api.OK
}

// plainOn is a time to which the numbers of a path were added; false: one of them has left the bound.
func plainOn(by api.Path, t api.Time, bound uint64) (api.Time, bool) {
	in := true
	add := func(n, m uint64) uint64 {
		if m > 0 && (n > math.MaxUint64-m || n+m > bound) {
			in = false
		}
		return n + m
	}
	return api.Time{A: add(t.A, by.A), B: add(t.B, by.B), C: add(t.C, by.C)}, in
}
