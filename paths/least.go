package paths

import (
	"sluice/api"
	"sluice/chain"
	"sluice/graph"
	"sluice/heap"
	"sluice/path"
)

// found is a place, and the path by which it was come to.
type found struct {
	at int
	by api.Path
}

// leastFrom is, by place, the least paths that lead there from one place.
func leastFrom(from int, steps [][]found) ([][]api.Path, api.Errno) {
	least := make([]*chain.Chain[api.Path], len(steps))
	for place := range least {
		least[place] = noneYet()
	}
	waiting := heap.New(func(a, b found) bool { return toldFirst(a.by, b.by) })
	waiting.Push(found{at: from})
	for next, some := waiting.Pop(); some; next, some = waiting.Pop() {
		// What is found later is never told ahead of what was found: so nothing goes out again that has come in, and it is soon seen if they are too many.
		if !least[next.at].Insert(next.by) {
			continue
		}
		if least[next.at].Len() > api.MaxLeast {
			return nil, api.ErrWide
		}
		for _, step := range steps[next.at] {
			by, ok := path.Then(next.by, step.by)
			if ok && !least[step.at].Covers(by) {
				waiting.Push(found{at: step.at, by: by})
			}
		}
	}
	return listsOf(least), api.OK
}

func listsOf(least []*chain.Chain[api.Path]) [][]api.Path {
	var lists [][]api.Path
	for _, c := range least {
		lists = append(lists, c.List())
	}
	return lists
}

// stepsOf is, by place, what one edge or one connection leads to from there.
func stepsOf(g *graph.Graph) [][]found {
	steps := make([][]found, g.Places())
	for _, d := range g.Raw().Edges {
		from := g.Out(d.From, d.Out)
		steps[from] = append(steps[from], found{at: g.In(d.To, d.In)})
	}
	for node := range g.Nodes() {
		for _, c := range g.Conns(node) {
			from := g.In(node, c.In)
			steps[from] = append(steps[from], found{at: g.Out(node, c.Out), by: c.By})
		}
	}
	return steps
}

// noneYet is a list that keeps the least of all that is put into it, in the order of telling.
func noneYet() *chain.Chain[api.Path] { return chain.New(path.Ahead, toldFirst) }

func toldFirst(p, q api.Path) bool { return path.Compare(p, q) < 0 }
