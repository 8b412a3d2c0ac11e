package paths

import (
	"cmp"
	"math/bits"
	"slices"

	"sluice/api"
	"sluice/draws"
)

// plain is a graph's edges and connections by the place from which they lead: what DOC.md's words say of its ways is worked out of them, with nothing of the program.
type plain [][]draws.Step

func plainOf(g api.Graph) plain {
	steps, places := draws.Steps(g)
	by := make(plain, places)
	for _, s := range steps {
		by[s.From] = append(by[s.From], s)
	}
	return by
}

// plainSum is what two paths, or a path and a time, make; not ok: it is none.
func plainSum(p, q api.Path) (api.Path, bool) {
	a, over := bits.Add64(p.A, q.A, 0)
	b, above := bits.Add64(p.B, q.B, 0)
	c, beyond := bits.Add64(p.C, q.C, 0)
	return api.Path{A: a, B: b, C: c}, over+above+beyond == 0
}

func plainAhead(p, q api.Path) bool { return p.A <= q.A && p.B <= q.B && p.C <= q.C }

func plainTelling(p, q api.Path) int {
	return cmp.Or(cmp.Compare(p.A, q.A), cmp.Compare(p.B, q.B), cmp.Compare(p.C, q.C))
}

// plainLeast is those of which no other one is at or ahead, each once, in the order of telling.
func plainLeast(l []api.Path) []api.Path {
	l = slices.Clone(l)
	slices.SortFunc(l, plainTelling)
	l = slices.Compact(l)
	var least []api.Path
	for _, p := range l {
		if !slices.ContainsFunc(l, func(q api.Path) bool { return q != p && plainAhead(q, p) }) {
			least = append(least, p)
		}
	}
	return least
}

// ways goes along every way from a place that meets no place twice, and tells where each ends and its path. No least path is missed: what is cut out of a way where it meets a place again leaves a path at or ahead.
func (g plain) ways(p int, tell func(q int, by api.Path)) {
	met := make([]bool, len(g))
	var on func(q int, by api.Path)
	on = func(q int, by api.Path) {
		met[q] = true
		tell(q, by)
		for _, s := range g[q] {
			if sum, ok := plainSum(by, s.By); ok && !met[s.To] {
				on(s.To, sum)
			}
		}
		met[q] = false
	}
	on(p, api.Path{})
}

// strolls goes along every way of at most so many steps, those that meet places again too.
func (g plain) strolls(p int, steps int, by api.Path, tell func(q int, by api.Path)) {
	tell(p, by)
	if steps == 0 {
		return
	}
	for _, s := range g[p] {
		if sum, ok := plainSum(by, s.By); ok {
			g.strolls(s.To, steps-1, sum, tell)
		}
	}
}

// standsStill tells whether some way comes back to its place by the empty path.
func (g plain) standsStill() bool {
	still := false
	for p := range g {
		g.ways(p, func(q int, by api.Path) {
			for _, s := range g[q] {
				still = still || s.To == p && by == (api.Path{}) && s.By == (api.Path{})
			}
		})
	}
	return still
}

// all is, by the place from which and the place to which, the paths of all ways that meet no place twice: for small graphs.
func (g plain) all() [][][]api.Path {
	all := make([][][]api.Path, len(g))
	for p := range g {
		all[p] = make([][]api.Path, len(g))
		g.ways(p, func(q int, by api.Path) {
			if !slices.Contains(all[p][q], by) {
				all[p][q] = append(all[p][q], by)
			}
		})
	}
	return all
}

// leastFrom is, by place, the least paths that lead there from p: what was found goes on along all steps till nothing more is found. It is for graphs of any size.
func (g plain) leastFrom(p int) [][]api.Path {
	least := make([][]api.Path, len(g))
	least[p] = []api.Path{{}}
	for again := true; again; {
		again = false
		for q := range g {
			for _, s := range g[q] {
				longer := slices.Clone(least[s.To])
				for _, by := range least[q] {
					if sum, ok := plainSum(by, s.By); ok {
						longer = append(longer, sum)
					}
				}
				longer = plainLeast(longer)
				again = again || !slices.Equal(longer, least[s.To])
				least[s.To] = longer
			}
		}
	}
	return least
}

// plainTimes are the times that the paths make of a time, as paths.
func plainTimes(l []api.Path, t api.Time) []api.Path {
	var times []api.Path
	for _, by := range l {
		if sum, ok := plainSum(by, api.Path(t)); ok {
			times = append(times, sum)
		}
	}
	return times
}
