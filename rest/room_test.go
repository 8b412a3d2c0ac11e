package rest

import (
	"fmt"
	"math"
	"testing"

	"sluice/api"
	"sluice/draws"
	"sluice/world"
)

// doubled is an input 0 and a map from which two edges lead to probes, the second one ahead of the map: a step takes so many messages at the map, and leaves just as many waiting; but behind the map's run they are twice as many.
func doubled() api.Graph {
	return graphOf(1, []api.Edge{edge(0, 2), edge(2, 3), edge(2, 1)}, input(), trap(), mapper(), trap())
}

// filled is a world in which so many messages wait at the map of each worker.
func filled(t *testing.T, many ...int) *world.World {
	t.Helper()
	w := begin(t, doubled(), len(many))
	for self, n := range many {
		for range n {
			does(t, w, send(self, 0, api.Time{}, api.Record{}))
		}
	}
	shuts(t, w)
	return w
}

// halves is two inputs, a probe behind the first one, and behind the second a map from which two edges lead to probes ahead of it: what a worker has at the first probe makes room when it steps, what it has at the map needs some.
func halves() api.Graph {
	return graphOf(1, []api.Edge{edge(0, 2), edge(1, 5), edge(5, 3), edge(5, 4)}, input(), input(), trap(), trap(), trap(), mapper())
}

// pressed is a world of such a graph without any room: one worker has 10 messages at its map, another one all others at its first probe. Nothing is on links but two batches by each worker, of its closes.
func pressed(t *testing.T, workers, needs, has int) *world.World {
	t.Helper()
	w := begin(t, halves(), workers)
	for range 10 {
		does(t, w, send(needs, 1, api.Time{}, api.Record{}))
	}
	for range api.MaxQueue - 10 {
		does(t, w, send(has, 0, api.Time{}, api.Record{}))
	}
	HearAll(w)
	shuts(t, w)
	return w
}

func TestStepsAreTakenInTheOrderThatIsPicked(t *testing.T) { // P28.3
	for _, c := range []struct {
		workers, needs, has int
		steps               []int
		want                api.Errno
	}{
		{2, 0, 1, nil, api.ErrFull}, {2, 0, 1, []int{0}, api.ErrFull}, {2, 0, 1, []int{1}, api.OK}, {2, 0, 1, []int{-1}, api.OK}, {2, 0, 1, []int{3}, api.OK}, {2, 0, 1, []int{-4}, api.ErrFull},
		{2, 1, 0, nil, api.OK}, {2, 1, 0, []int{1}, api.ErrFull}, {2, 1, 0, []int{math.MaxInt}, api.ErrFull}, {2, 1, 0, []int{math.MinInt}, api.OK},
		// By rising numbers, of those that are left: 2 0 1 3; 0 2 1 3; 0 3 2 1.
		{4, 1, 3, []int{2}, api.ErrFull}, {4, 1, 3, []int{3}, api.OK}, {4, 1, 3, []int{0, 1, 0}, api.ErrFull}, {4, 1, 3, []int{0, 2}, api.OK}, {4, 3, 2, []int{0, 1}, api.OK}, {4, 3, 2, []int{0, 2}, api.ErrFull},
		{4, 3, 2, []int{0, 0, 1}, api.ErrFull}, {4, 3, 2, []int{0, 0, -2}, api.OK}, {4, 3, 2, []int{1, 1, 1, 1}, api.OK}, {4, 2, 3, []int{0, 0, 1, 5, 7}, api.OK},
		{8, 6, 7, []int{0, 0, 0, 0, 0, 0, 0, 1}, api.ErrFull}, {8, 6, 7, []int{0, 0, 0, 0, 0, 0, 1}, api.OK},
	} {
		w := pressed(t, c.workers, c.needs, c.has)
		v := w.Copy()
		// What delivers is another list.
		if e := Round(w, []int{1, 1, 1, 1, 1, 1, 1, 1}, c.steps); e != c.want {
			t.Errorf("%v: Round = %d, want %d", c, e, c.want)
		}
		if refused := plainRound(v, &given{}, &given{l: c.steps}); refused != (c.want == api.ErrFull) {
			t.Errorf("%v: refused apart: %v", c, refused)
		}
		same(t, fmt.Sprint(c), w, v)
	}
}

func TestARoundGoesOnBehindAStepThatIsRefused(t *testing.T) { // P28.3
	w := pressed(t, 3, 0, 2)
	if e := Round(w, nil, nil); e != api.ErrFull {
		t.Errorf("Round = %d", e)
	}
	// All of worker 2's were taken; worker 0's wait as they did.
	if w.Outstanding() != 10 || w.Waiting(0, 5) != 10 || len(w.Caught(2)) != api.MaxQueue-10 || w.Batches(2, 0) != 1 || w.Batches(2, 1) != 1 || w.Batches(0, 1) != 0 {
		t.Errorf("it is %s", answersOf(w))
	}
	if e := Round(w, nil, nil); e != api.OK || w.Outstanding() != 20 {
		t.Errorf("Round = %d, %d are outstanding", e, w.Outstanding())
	}
}

func TestRestTellsOfAStepThatWasRefused(t *testing.T) { // P28.6, P4
	w := pressed(t, 2, 0, 1)
	rounds(t, "it isn't still yet", w.Copy(), 1, nil, 1, api.ErrHeavy)
	rounds(t, "it isn't still yet", w.Copy(), 3, nil, 3, api.ErrHeavy)
	rounds(t, "refused in the first round", w.Copy(), 4, nil, 4, api.ErrFull)
	rounds(t, "refused in the first round", w.Copy(), 50, nil, 4, api.ErrFull)
	rounds(t, "refused in none", w.Copy(), 50, []int{0, 0, 0, 0, 1}, 3, api.OK)
	// A still world of which some step was refused earlier is no matter of this Rest.
	rounds(t, "the first round", w, 1, nil, 1, api.ErrHeavy)
	rounds(t, "from there", w, 50, nil, 3, api.OK)
	rounds(t, "it is still", w, 50, nil, 0, api.OK)
}

func TestRestOfWhatNeverComesToRest(t *testing.T) { // P28.6, P1: it ends, however many rounds may be gone through
	full := filled(t, api.MaxQueue)
	both := filled(t, api.MaxQueue-40, 40)
	open := onWay(t)
	unused := begin(t, graphOf(1, nil, free(true, 0, 1)), 3)
	waits := begin(t, asked(), 2)
	does(t, waits, send(0, 0, api.Time{}, api.Record{Key: keyOf(1, 2, 0)}))
	shuts(t, waits)
	for what, w := range map[string]*world.World{"full": full, "full by two": both, "inputs are open": open, "a capability is held": unused, "a message waits at a free node": waits} {
		for _, most := range []int{0, 1, 2, 3, 50, 1 << 20, math.MaxInt} {
			rounds(t, what, w.Copy(), most, []int{1, -1, 0, 1}, most, api.ErrHeavy)
		}
		v, u := w.Copy(), w.Copy()
		rounds(t, what, v, math.MaxInt-1, nil, math.MaxInt-1, api.ErrHeavy)
		for range 20 {
			plainRound(u, &given{}, &given{})
		}
		same(t, what, v, u)
		is(t, what, v, true, false)
	}
}

func TestRoundsThatLookIdle(t *testing.T) { // P28.6: as long as anything is heard, passed on or done, it goes on
	// A message passes a row of maps, each behind the next one, so it goes on by one node a step; where keys change, it goes from worker to worker.
	var nodes []api.Node
	var edges []api.Edge
	for node := range 20 {
		nodes = append(nodes, mapper())
		nodes[node].Code = []api.Op{{Kind: 1, Arg: uint64(node)}}
		if node > 0 {
			edges = append(edges, api.Edge{From: node, To: node - 1, Keyed: node%3 > 0})
		}
	}
	nodes, edges = append(nodes, input(), trap()), append(edges, edge(20, 19), edge(0, 21))
	for _, workers := range []int{1, 2, 5} {
		w := begin(t, graphOf(1, edges, nodes...), workers)
		for key := range uint64(3) {
			does(t, w, send(0, 20, api.Time{}, api.Record{Key: key}))
		}
		// An input that is open at another worker.
		v := w.Copy()
		rounds(t, "it stays open", v, math.MaxInt, nil, math.MaxInt, api.ErrHeavy)
		if len(v.Caught(21)) != 3 {
			t.Errorf("%d workers: caught %v", workers, v.Caught(21))
		}
		shuts(t, w)
		n, e, _ := plainRest(w.Copy(), 99, &given{})
		rounds(t, "a row", w, math.MaxInt, nil, n, e)
	}
}

func TestRestUsesUpTheSamePicks(t *testing.T) { // P28.6: both halves, and one round's behind the other's
	// In the first round four batches have their picks ahead of the steps, which have two.
	for _, c := range []struct {
		picks []int
		want  api.Errno
	}{{nil, api.ErrFull}, {[]int{1, 1, 1, 1}, api.ErrFull}, {[]int{0, 0, 0, 1}, api.ErrFull}, {[]int{0, 0, 0, 0, 1}, api.OK}, {[]int{1, 1, 1, 1, -1, 1}, api.OK}, {[]int{1, 0, 1, 1, 0, 1, 1}, api.ErrFull}} {
		w := pressed(t, 2, 0, 1)
		n, e, _ := plainRest(w.Copy(), 50, &given{l: c.picks})
		if e != c.want {
			t.Errorf("%v: apart %d, want %d", c.picks, e, c.want)
		}
		rounds(t, fmt.Sprint(c.picks), w, 50, c.picks, n, c.want)
	}
	// By the messages at a free node: they were sent in an earlier round.
	differ := 0
	for seed := range uint64(200) {
		next := draws.Numbers(seed)
		w := begin(t, relay(), 3)
		for i := range uint64(12) {
			does(t, w, send(int(i)%3, 0, api.Time{}, api.Record{Key: uint64(next(9)), Val: i}))
		}
		shuts(t, w)
		picks := drawnPicks(next, 90)
		v, u := w.Copy(), w.Copy()
		n, e := Rest(w, 6, picks...)
		m, f, _ := plainRest(v, 6, &given{l: picks})
		if n != m || e != f {
			t.Errorf("Rest = %d, %d, want %d, %d", n, e, m, f)
		}
		same(t, fmt.Sprint(picks), w, v)
		// Had each round begun with the first pick, it would be another world.
		for range 6 {
			plainRound(u, &given{l: picks}, &given{})
		}
		if emptied(u) != emptied(w) {
			differ++
		}
	}
	if differ < 50 {
		t.Errorf("drawn: only %d times the picks of later rounds are seen", differ)
	}
}
