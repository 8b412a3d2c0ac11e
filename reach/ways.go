package reach

import (
	"cmp"

	"sluice/api"
	"sluice/graph"
	"sluice/paths"
	"sluice/stamp"
)

// ways is what leads on from each place. It never changes once it is made, so copies share it.
type ways struct {
	arity int
	steps [][]step
	ranks []int
}

// step is an edge or a connection.
type step struct {
	to int
	by api.Path
}

func waysOf(g *graph.Graph, table *paths.Table) ways {
	return ways{arity: g.Arity(), steps: stepsOf(g), ranks: ranksOf(table)}
}

// stepsOf is, by place, the steps that lead on from there.
func stepsOf(g *graph.Graph) [][]step {
	steps := make([][]step, g.Places())
	for _, d := range g.Raw().Edges {
		from := g.Out(d.From, d.Out)
		steps[from] = append(steps[from], step{to: g.In(d.To, d.In)})
	}
	for node := range g.Nodes() {
		for _, c := range g.Conns(node) {
			from := g.In(node, c.In)
			steps[from] = append(steps[from], step{to: g.Out(node, c.Out), by: c.By})
		}
	}
	return steps
}

// ranksOf is, by place, from how many places the empty path leads there. As no cycle is empty, a place to which it leads from another one has more than that one.
func ranksOf(table *paths.Table) []int {
	ranks := make([]int, table.Places())
	for from := range table.Places() {
		for to := range table.Places() {
			// Of the least time just the empty path makes the least time.
			if table.Could(api.Stamp{At: from}, api.Stamp{At: to}) {
				ranks[to]++
			}
		}
	}
	return ranks
}

// first is the order of the worklist: of telling, then such that no step leads back.
func (w ways) first(a, b api.Change) bool {
	return cmp.Or(stamp.Compare(a.S.T, b.S.T), cmp.Compare(w.ranks[a.S.At], w.ranks[b.S.At]), cmp.Compare(a.S.At, b.S.At)) < 0
}
