package rest

import (
	"slices"

	"sluice/api"
	"sluice/graph"
	"sluice/path"
	"sluice/world"
)

// heavy is the most stamps that are counted.
const heavy = 4096

// Enough is how many stamps the tokens could come to. ErrNode: the graph has a free node; ErrEpoch: some input is open; ErrHeavy: they are more than 4096.
func Enough(w *world.World) (int, api.Errno) {
	if w == nil {
		return 0, api.ErrArg
	}
	raw := w.Graph().Raw()
	if slices.ContainsFunc(raw.Nodes, func(n api.Node) bool { return n.Kind == api.KFree }) {
		return 0, api.ErrNode
	}
	if someOpen(w, len(raw.Nodes)) {
		return 0, api.ErrEpoch
	}
	f := field{g: w.Graph(), raw: raw, seen: map[api.Stamp]struct{}{}}
	for _, c := range w.Tokens() {
		f.meet(c.S)
	}
	return f.spread()
}

// someOpen tells whether some input is open at some worker.
func someOpen(w *world.World, nodes int) bool {
	for self := range w.Workers() {
		for node := range nodes {
			if _, open := w.Epoch(self, node); open {
				return true
			}
		}
	}
	return false
}

// field is the stamps that were met so far on the ways that records go.
type field struct {
	g    *graph.Graph
	raw  api.Graph
	seen map[api.Stamp]struct{}
	todo []api.Stamp // those from which it wasn't gone on yet
}

func (f *field) meet(s api.Stamp) {
	if _, is := f.seen[s]; is {
		return
	}
	f.seen[s] = struct{}{}
	f.todo = append(f.todo, s)
}

// spread goes on from all stamps till no new one is met, or there are too many: how many there are.
func (f *field) spread() (int, api.Errno) {
	for len(f.todo) > 0 && len(f.seen) <= heavy {
		s := f.todo[len(f.todo)-1]
		f.todo = f.todo[:len(f.todo)-1]
		node, port, in := f.g.Of(s.At)
		if in {
			f.through(node, port, s.T)
		} else {
			f.along(s)
		}
	}
	if len(f.seen) > heavy {
		return 0, api.ErrHeavy
	}
	return len(f.seen), api.OK
}

// along goes on from an out-place by its edges.
func (f *field) along(s api.Stamp) {
	for number := range f.g.Edges(s.At) {
		d := f.raw.Edges[number]
		f.meet(api.Stamp{At: f.g.In(d.To, d.In), T: s.T})
	}
}

// through goes on from an in-port through its node, as far as a loop lets it.
func (f *field) through(node, port int, t api.Time) {
	for _, c := range f.g.Conns(node) {
		u, ok := path.On(c.By, t)
		if c.In == port && ok && within(f.raw.Nodes[node], u) {
			f.meet(api.Stamp{At: f.g.Out(node, c.Out), T: u})
		}
	}
}

// within tells whether each number of a time to which the node's By has added something is at most its Bound. By is empty but in loops.
func within(n api.Node, t api.Time) bool {
	return (n.By.A == 0 || t.A <= n.Bound) && (n.By.B == 0 || t.B <= n.Bound) && (n.By.C == 0 || t.C <= n.Bound)
}
