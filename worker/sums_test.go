package worker

import (
	"slices"
	"testing"

	"sluice/api"
	"sluice/route"
)

func TestNothingIsToldAheadOfItsTime(t *testing.T) { // P25.5
	w := alone(t, summed())
	for a := range uint64(4) {
		does(t, w, send(0, at(3-a), rec(7, a), 9), ch(1, 1, 3-a))
	}
	does(t, w, step(9), ch(1, -1, 0), ch(1, -1, 1), ch(1, -1, 2), ch(1, -1, 3), ch(2, 1, 0), ch(2, 1, 1), ch(2, 1, 2), ch(2, 1, 3))
	does(t, w, step(9))
	does(t, w, advance(0, at(1)), ch(0, -1, 0), ch(0, 1, 1))
	fronts(t, w, 3, at())
	does(t, w, step(9), ch(2, -1, 0))
	catches(t, w, 2, caught(at(0), 7, 3))
	fronts(t, w, 3, at(1))
	does(t, w, advance(0, at(3)), ch(0, -1, 1), ch(0, 1, 3))
	does(t, w, run(1, 9), ch(2, -1, 1), ch(2, -1, 2), ch(3, 1, 1), ch(3, 1, 2))
	does(t, w, shut(0), ch(0, -1, 3))
	does(t, w, step(9), ch(2, -1, 3), ch(3, -1, 1), ch(3, -1, 2))
	catches(t, w, 2, caught(at(0), 7, 3), caught(at(1), 7, 2), caught(at(2), 7, 1), caught(at(3), 7, 0))
	tokens(t, w)
}

func TestTimesApart(t *testing.T) { // P25.5
	g := summed()
	g.Arity = 2
	w := alone(t, g)
	for _, u := range []api.Time{at(1, 0), at(0, 2), at(3, 3), at(0, 1)} {
		does(t, w, send(0, u, rec(1, 1), 9), ch(1, 1, u.A, u.B))
	}
	does(t, w, step(9), ch(1, -1, 0, 1), ch(1, -1, 0, 2), ch(1, -1, 1, 0), ch(1, -1, 3, 3), ch(2, 1, 0, 1), ch(2, 1, 0, 2), ch(2, 1, 1, 0), ch(2, 1, 3, 3))
	does(t, w, advance(0, at(1, 0)), ch(0, -1, 0), ch(0, 1, 1, 0))
	does(t, w, step(9), ch(2, -1, 0, 1), ch(2, -1, 0, 2))
	does(t, w, advance(0, at(1, 3)), ch(0, -1, 1, 0), ch(0, 1, 1, 3))
	does(t, w, step(9), ch(2, -1, 1, 0))
	does(t, w, send(0, at(3, 3), rec(2, 2), 9), ch(1, 1, 3, 3))
	does(t, w, shut(0), ch(0, -1, 1, 3))
	// The message that waits keeps its time open: it is taken, and told in a later act.
	does(t, w, step(9), ch(1, -1, 3, 3))
	does(t, w, step(9), ch(2, -1, 3, 3))
	catches(t, w, 2, caught(at(0, 1), 1, 1), caught(at(0, 2), 1, 1), caught(at(1, 0), 1, 1), caught(at(3, 3), 1, 1), caught(at(3, 3), 2, 2))
}

// telling is a sum that tells to a probe, by the key: in-place 0, out-place 1, probe 2.
func telling() api.Graph {
	return api.Graph{Arity: 2, Nodes: []api.Node{sum(), trap()}, Edges: []api.Edge{keyed(0, 1)}}
}

func TestEachKeyOnceAndRising(t *testing.T) { // P25.5
	a, b, c := keyOf(1, 2, 0), keyOf(1, 2, 1), keyOf(0, 2, 0)
	w := begin(t, telling(), 2, 0)
	passes(t, w, msg(0, at(1, 0), b, 5), msg(0, at(0, 2), a, 1), msg(0, at(1, 0), a, 0), msg(0, at(1, 0), b, last-4), msg(0, at(0, 2), c, last), msg(0, at(0, 2), a, 8), msg(0, at(0, 2), c, last))
	x := does(t, w, run(0, 0), ch(0, -4, 0, 2), ch(0, -3, 1, 0), ch(2, 2, 0, 2), ch(2, 2, 1, 0))
	goes(t, x, route.Out{Worker: 1, M: msg(2, at(0, 2), a, 9)}, route.Out{Worker: 1, M: msg(2, at(1, 0), a, 0)}, route.Out{Worker: 1, M: msg(2, at(1, 0), b, 0)})
	does(t, w, run(1, 0), ch(2, -1, 0, 2))
	catches(t, w, 1, caught(at(0, 2), c, last-1))
	tokens(t, w)
}

func TestRecordsOfSeveralActs(t *testing.T) { // P25.5: a time's records, whenever they were taken, and what comes behind its telling
	w := alone(t, summed())
	for _, val := range []uint64{1, 2, 3} {
		does(t, w, send(0, at(1), rec(7, val), 9), ch(1, 1, 1))
		if val == 1 {
			does(t, w, run(1, 9), ch(1, -1, 1), ch(2, 1, 1))
		} else {
			does(t, w, run(1, 9), ch(1, -1, 1))
		}
		tokens(t, w, ch(0, 1, 0), ch(2, 1, 1))
	}
	does(t, w, shut(0), ch(0, -1, 0))
	passes(t, w, msg(1, at(1), 7, 10), msg(1, at(1), 6, 0))
	// The view doesn't know of these two: the time is done, and what was held of it is told with them.
	does(t, w, run(1, 9), ch(1, -2, 1), ch(2, -1, 1), ch(3, 2, 1))
	// So it is with one that comes behind all: it is a time by itself.
	passes(t, w, msg(1, at(1), 7, 100))
	does(t, w, step(9), ch(1, -1, 1), ch(3, -2, 1))
	catches(t, w, 2, caught(at(1), 6, 0), caught(at(1), 7, 16), caught(at(1), 7, 100))
	tokens(t, w)
	counts(t, w, ch(1, -3, 1))
}

func TestMessagesOfWhichTheViewKnowsNothing(t *testing.T) { // P25.5, P25.6
	w := begin(t, summed(), 2, 0)
	does(t, w, advance(0, at(5)), ch(0, -1, 0), ch(0, 1, 5))
	hears(t, w, ch(0, -1, 0), ch(0, 1, 3))
	passes(t, w, msg(1, at(2), 7, 1), msg(1, at(3), 7, 2), msg(1, at(2), 7, 3), msg(1, at(9), 7, 4))
	fronts(t, w, 1, at(3))
	does(t, w, run(1, 9), ch(1, -2, 2), ch(1, -1, 3), ch(1, -1, 9), ch(2, 1, 3), ch(2, 1, 9), ch(3, 1, 2))
	tokens(t, w, ch(0, 1, 5), ch(2, 1, 3), ch(2, 1, 9), ch(3, 1, 2))
	// Its making is heard late: it holds nothing that is told already.
	hears(t, w, ch(1, 2, 2), ch(1, 1, 3), ch(1, 1, 9))
	does(t, w, step(0), ch(3, -1, 2))
	catches(t, w, 2, caught(at(2), 7, 4))
}

func TestTheFrontAheadOfTheStep(t *testing.T) { // P25.5: what an earlier node takes in the same step holds the time still
	// An input 0, a filter 1 2 that lets nothing pass, a sum 3 4, a probe 5; and another input 6 to the sum.
	g := nodes(input(), filter(api.Op{Kind: 26}), sum(), trap(), input())
	g.Edges = []api.Edge{edge(0, 1), keyed(1, 2), edge(2, 3), keyed(4, 2)}
	w := alone(t, g)
	does(t, w, send(4, at(1), rec(7, 5), 9), ch(3, 1, 1))
	does(t, w, run(2, 0), ch(3, -1, 1), ch(4, 1, 1))
	does(t, w, send(0, at(1), rec(1, 1), 9), ch(1, 1, 1))
	does(t, w, shut(0), ch(0, -1, 0))
	does(t, w, shut(4), ch(6, -1, 0))
	fronts(t, w, 3, at(1))
	does(t, w, step(9), ch(1, -1, 1))
	fronts(t, w, 3)
	catches(t, w, 3)
	does(t, w, step(9), ch(4, -1, 1))
	catches(t, w, 3, caught(at(1), 7, 5))
}

func TestASumBehindASum(t *testing.T) { // P25.5
	// Places: 0; 1 2; 3 4; 5.
	w := alone(t, row(input(), sum(), sum(), trap()))
	for _, key := range []uint64{1, 2, 1} {
		does(t, w, send(0, at(4), rec(key, 10), 9), ch(1, 1, 4))
	}
	does(t, w, step(9), ch(1, -3, 4), ch(2, 1, 4))
	does(t, w, shut(0), ch(0, -1, 0))
	// The first tells, the second takes it in the same step; its own time was held by the first one ahead of it.
	does(t, w, step(9), ch(2, -1, 4), ch(4, 1, 4))
	catches(t, w, 3)
	does(t, w, step(9), ch(4, -1, 4))
	catches(t, w, 3, caught(at(4), 1, 20), caught(at(4), 2, 10))
}

func TestASumWithoutEdges(t *testing.T) { // P25.5
	w := alone(t, row(input(), sum()))
	does(t, w, send(0, at(4), rec(1, 1), 9), ch(1, 1, 4))
	does(t, w, step(0), ch(1, -1, 4), ch(2, 1, 4))
	does(t, w, shut(0), ch(0, -1, 0))
	does(t, w, step(0), ch(2, -1, 4))
	tokens(t, w)
}

func TestRefusedSumsTellTheSameLater(t *testing.T) { // P25.5, P25.8
	w := alone(t, summed())
	var want []api.Caught
	for key := range uint64(5) {
		does(t, w, send(0, at(key%2), rec(key, key), 9), ch(1, 1, key%2))
		want = append(want, caught(at(key%2), key, key))
	}
	does(t, w, step(0), ch(1, -3, 0), ch(1, -2, 1), ch(2, 1, 0), ch(2, 1, 1))
	does(t, w, shut(0), ch(0, -1, 0))
	for room := range 5 {
		refuses(t, w, run(1, room), api.ErrFull)
		refuses(t, w, step(room), api.ErrFull)
		tokens(t, w, ch(2, 1, 0), ch(2, 1, 1))
	}
	hears(t, w, ch(3, most, 1))
	refuses(t, w, run(1, wide), api.ErrRange)
	// In a step the probe takes them in the same act.
	does(t, w, step(5), ch(2, -1, 0), ch(2, -1, 1))
	slices.SortFunc(want, orderOfCaught)
	catches(t, w, 2, want...)
}
