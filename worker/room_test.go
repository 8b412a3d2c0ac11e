package worker

import (
	"math"
	"testing"

	"sluice/api"
	"sluice/route"
)

// fan is a node with edges to so many probes.
func fan(n api.Node, many int) api.Graph {
	g := nodes(n)
	for i := range many {
		g.Nodes = append(g.Nodes, trap())
		g.Edges = append(g.Edges, edge(0, i+1))
	}
	return g
}

func TestRoomOfASending(t *testing.T) { // P25.2, P25.4
	for many := range 6 {
		for _, n := range []api.Node{input(), free(true, 0, 1)} {
			c := send(0, at(2), rec(1, 1), 0)
			if n.Kind == api.KFree {
				c = emit(1, at(2), rec(1, 1), 0)
			}
			for _, room := range []int{math.MinInt, -1, 0, 1, 2, 3, 4, 5, 6, math.MaxInt} {
				w := alone(t, fan(n, many))
				c.room = room
				if many > max(room, 0) {
					refuses(t, w, c, api.ErrFull)
					continue
				}
				var want []api.Change
				for place := range many {
					want = append(want, ch(place+1, 1, 2))
				}
				does(t, w, c, want...)
			}
		}
	}
}

func TestRoomOfMessagesToOthers(t *testing.T) { // P25.2, P25.5
	g := nodes(input(), trap(), trap(), trap())
	g.Edges = []api.Edge{edge(0, 1), keyed(0, 2), keyed(0, 3)}
	w := begin(t, g, 2, 0)
	key := keyOf(1, 2, 0)
	refuses(t, w, send(0, at(), rec(key, 1), 2), api.ErrFull)
	x := does(t, w, send(0, at(), rec(key, 1), 3), ch(1, 1, 0), ch(2, 1, 0), ch(3, 1, 0))
	goes(t, x, route.Out{Worker: 1, M: msg(2, at(), key, 1)}, route.Out{Worker: 1, M: msg(3, at(), key, 1)})
	// What is on links counts to the room, which is told from outside.
	does(t, w, step(0), ch(1, -1, 0))
	refuses(t, w, send(0, at(), rec(key, 1), 2), api.ErrFull)
}

func TestRoomOfARun(t *testing.T) { // P25.5
	for taken := 1; taken < 4; taken++ {
		for many := range 4 {
			// It takes so many, and makes as many at each probe.
			more := taken*many - taken
			for _, room := range []int{math.MinInt, -1, 0, more - 1, more, more + 1, math.MaxInt} {
				w := alone(t, fan(mapper(), many))
				for i := range taken {
					passes(t, w, msg(0, at(uint64(i)), 1, 1))
				}
				if more > max(room, 0) {
					refuses(t, w, run(0, room), api.ErrFull)
					refuses(t, w, step(room), api.ErrFull)
					waits(t, w, 0, taken)
					continue
				}
				if x := run(0, room).of(w); x.e != api.OK {
					t.Errorf("%d taken, %d made, room %d: %d", taken, taken*many, room, x.e)
				}
				waits(t, w, 0, 0)
			}
		}
	}
}

func TestActsThatMakeNoneAreNeverOutOfRoom(t *testing.T) { // P25.5
	w := alone(t, summed())
	does(t, w, step(math.MinInt))
	passes(t, w, msg(1, at(), 1, 1), msg(3, at(), 1, 1))
	does(t, w, run(1, math.MinInt), ch(1, -1, 0), ch(2, 1, 0))
	does(t, w, step(math.MinInt), ch(3, -1, 0))
}

func TestRoomOfAStep(t *testing.T) { // P25.5, P25.8: behind the run of each node
	// Node 0 makes 2 of 1, node 3 lets all go. Places: 0 1; 2 3; 4 5; 6 7.
	grow := nodes(mapper(), mapper(), mapper(), filter(api.Op{Kind: 26}))
	grow.Edges = []api.Edge{edge(0, 1), edge(0, 2), edge(1, 3), edge(2, 3)}
	w := alone(t, grow)
	passes(t, w, msg(0, at(), 1, 1))
	refuses(t, w, step(0), api.ErrFull)
	does(t, w, step(1), ch(0, -1, 0))
	// That less are outstanding at its end than at its beginning doesn't help: it is asked behind each run.
	passes(t, w, msg(0, at(), 1, 1), msg(6, at(), 1, 1), msg(6, at(), 1, 1))
	refuses(t, w, step(0), api.ErrFull)
	does(t, w, step(1), ch(0, -1, 0), ch(6, -2, 0))
	// What an earlier node has taken is room for a later one.
	shrink := nodes(filter(api.Op{Kind: 26}), mapper(), trap(), trap())
	shrink.Edges = []api.Edge{edge(1, 2), edge(1, 3)}
	w = alone(t, shrink)
	passes(t, w, msg(0, at(), 1, 1), msg(2, at(), 1, 1))
	refuses(t, w, run(1, 0), api.ErrFull)
	does(t, w, step(0), ch(0, -1, 0), ch(2, -1, 0))
	passes(t, w, msg(0, at(), 1, 1), msg(2, at(), 1, 1), msg(2, at(), 1, 1))
	refuses(t, w, step(0), api.ErrFull)
	does(t, w, step(1), ch(0, -1, 0), ch(2, -2, 0))
}

func TestAStepWhoseLaterNodesHaveNoRoom(t *testing.T) { // P25.5, P25.8
	// A map into a sum, whose sums go to a probe, and a map that makes two of one. Places: 0 1; 2 3; 4; 5 6; 7 8 9.
	g := nodes(mapper(), sum(), trap(), mapper(), free(false, 2, 1, api.Conn{}))
	g.Edges = []api.Edge{keyed(0, 1), edge(1, 2), {From: 3, To: 4, In: 0}, {From: 3, To: 4, In: 1}}
	w := alone(t, g)
	hears(t, w, ch(2, 1, 5))
	// The sum holds 5 and 6: in the view they aren't done.
	passes(t, w, msg(2, at(5), 7, 1), msg(2, at(5), 8, 1), msg(2, at(6), 7, 1))
	does(t, w, run(1, 0), ch(2, -2, 5), ch(2, -1, 6), ch(3, 1, 5), ch(3, 1, 6))
	hears(t, w, ch(2, 9, 6))
	// Now 5 is done, and 4 with it: a step tells both, the probe catches them, and then the last node makes more than may be.
	passes(t, w, msg(2, at(5), 9, 1), msg(0, at(6), 1, 1), msg(2, at(4), 3, 3), msg(2, at(4), 2, 2), msg(4, at(1), 5, 5), msg(7, at(2), 6, 6))
	for range 9 {
		passes(t, w, msg(5, at(8), 4, 4))
	}
	waits(t, w, 5, 9)
	told := []api.Caught{caught(at(1), 5, 5), caught(at(4), 2, 2), caught(at(4), 3, 3), caught(at(5), 7, 1), caught(at(5), 8, 1), caught(at(5), 9, 1)}
	// The others take 11 and make 6, the last one takes 9 and makes 18.
	for room := -1; room < 4; room++ {
		refuses(t, w, step(room), api.ErrFull)
	}
	catches(t, w, 2)
	does(t, w, step(4), ch(0, -1, 6), ch(2, -2, 4), ch(2, -1, 5), ch(3, -1, 5), ch(4, -1, 1), ch(5, -9, 8), ch(7, 9, 8), ch(8, 9, 8))
	catches(t, w, 2, told...)
}
