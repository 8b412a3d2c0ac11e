package worker

import (
	"math"
	"testing"

	"sluice/api"
	"sluice/route"
)

// rich has one in-port with several connections, one of them twice to the same out-port, another in-port with none, and one by which few times become times: in-places 0, 1, 2, out-places 3, 4.
func rich() api.Graph {
	return api.Graph{Arity: 2, Nodes: []api.Node{free(false, 3, 2,
		api.Conn{Out: 1, By: by(2)}, api.Conn{In: 2, By: by(0, last)}, api.Conn{By: by(0, 1)}, api.Conn{Out: 1}, api.Conn{Out: 1, By: by(last)}, api.Conn{In: 2, Out: 1, By: by(1, last)},
	)}}
}

// full holds as many capabilities as may be, numbers 1 to 256, at place 2 at 0; one message waits at place 0, at 3. (In-places 0, 1; the out-place 2; an input at place 3.)
func full(t *testing.T) *Worker {
	t.Helper()
	w := alone(t, nodes(free(true, 2, 1, api.Conn{By: by(1)}), input()))
	for id := 2; id <= api.MaxCaps; id++ {
		mints(t, does(t, w, clone(1), ch(2, 1, 0)), api.Message{}, id)
	}
	passes(t, w, msg(0, at(3), 1, 1))
	return w
}

func TestTakeMints(t *testing.T) { // P25.3
	w := alone(t, rich())
	one, two := msg(0, at(4, 4), 1, 2), msg(0, at(0, last), 3, 4)
	passes(t, w, one, msg(1, at(), 9, 9), two, msg(2, at(1, 1), 5, 6), msg(2, at(1, 0), 7, 8), msg(2, at(last, 0), 9, 9))
	mints(t, does(t, w, take(0), ch(0, -1, 4, 4), ch(3, 1, 4, 5), ch(4, 1, 4, 4), ch(4, 1, 6, 4)), one, 1, 2, 3)
	is(t, "Held", w.Held(), held(1, 4, 6, 4), held(2, 3, 4, 5), held(3, 4, 4, 4))
	// By 0 1 and by last of the second one are no times, but by last of 0 is one.
	mints(t, does(t, w, take(0), ch(0, -1, 0, last), ch(4, 1, 0, last), ch(4, 1, 2, last), ch(4, 1, last, last)), two, 4, 5, 6)
	// No connection leads from the second in-port.
	mints(t, does(t, w, take(1), ch(1, -1, 0)), msg(1, at(), 9, 9))
	// No path is a path on the third one's first message: it is taken all the same.
	mints(t, does(t, w, take(2), ch(2, -1, 1, 1)), msg(2, at(1, 1), 5, 6))
	mints(t, does(t, w, take(2), ch(2, -1, 1, 0), ch(3, 1, 1, last), ch(4, 1, 2, last)), msg(2, at(1, 0), 7, 8), 7, 8)
	mints(t, does(t, w, take(2), ch(2, -1, last, 0), ch(3, 1, last, last)), msg(2, at(last, 0), 9, 9), 9)
	for place := range 3 {
		refuses(t, w, take(place), api.ErrEmpty)
	}
	mints(t, does(t, w, clone(9), ch(3, 1, last, last)), api.Message{}, 10)
}

func TestTakeTakesWhatWaitsLongest(t *testing.T) { // P25.3, P25.6
	w := alone(t, api.Graph{Arity: 1, Nodes: []api.Node{free(true, 2, 1, api.Conn{By: by(1)}), mapper()}, Edges: []api.Edge{edge(0, 1), edge(1, 0)}})
	// Places: 0 and 1 in, 2 out; the map's 3 and 4.
	passes(t, w, msg(0, at(9), 1, 1), msg(1, at(0), 2, 2), msg(0, at(3), 3, 3))
	does(t, w, emit(1, at(5), rec(4, 4), 9), ch(3, 1, 5))
	does(t, w, step(0), ch(0, 1, 5), ch(3, -1, 5))
	passes(t, w, msg(0, at(3), 5, 5))
	for i, m := range []api.Message{msg(0, at(9), 1, 1), msg(0, at(3), 3, 3), msg(0, at(5), 4, 4), msg(0, at(3), 5, 5)} {
		waits(t, w, 0, 4-i)
		mints(t, take(0).of(w), m, i+2)
	}
	waits(t, w, 1, 1)
	refuses(t, w, take(0), api.ErrEmpty)
}

func TestWhatTakeIsRefusedBy(t *testing.T) { // P25.3, P25.8, P4
	w := alone(t, kinds())
	for place := range 15 {
		w.Pass(msg(place, at(), 1, 1))
	}
	for _, place := range []int{0, 1, 2, 3, 4, 5, 6, 7, 8, 9, 10, 11, 12, 14, 15, -1, math.MaxInt, math.MinInt} {
		refuses(t, w, take(place), api.ErrPlace)
	}
	mints(t, does(t, w, take(13), ch(13, -1, 0), ch(14, 1, 0)), msg(13, at(), 1, 1), 2)
	refuses(t, w, take(13), api.ErrEmpty)

	w = full(t)
	refuses(t, w, take(2), api.ErrPlace)
	refuses(t, w, take(1), api.ErrEmpty)
	refuses(t, w, take(0), api.ErrFull)
	hears(t, w, ch(0, -most, 3))
	refuses(t, w, take(0), api.ErrFull)
	does(t, w, drop(7), ch(2, -1, 0))
	refuses(t, w, take(0), api.ErrRange)
	hears(t, w, ch(0, 1, 3), ch(2, most, 4))
	refuses(t, w, take(0), api.ErrRange)
	hears(t, w, ch(2, -1, 4))
	mints(t, does(t, w, take(0), ch(0, -1, 3), ch(2, 1, 4)), msg(0, at(3), 1, 1), 257)
}

func TestTakeOfAsManyAsMayBe(t *testing.T) { // P25.3
	w := alone(t, nodes(free(true, 2, 2, api.Conn{}, api.Conn{Out: 1}, api.Conn{Out: 1, By: by(1)})))
	for len(w.Held()) < api.MaxCaps-3 {
		clone(1).of(w)
	}
	passes(t, w, msg(0, at(3), 1, 1), msg(0, at(4), 1, 1), msg(1, at(5), 1, 1))
	mints(t, does(t, w, take(0), ch(0, -1, 3), ch(2, 1, 3), ch(3, 1, 3), ch(3, 1, 4)), msg(0, at(3), 1, 1), 254, 255, 256)
	// A message of which nothing is minted is taken by one who holds all that may be.
	mints(t, does(t, w, take(1), ch(1, -1, 5)), msg(1, at(5), 1, 1))
	// The first two would be minted, the third would not: none is, and no number is used.
	does(t, w, drop(255), ch(3, -1, 3))
	does(t, w, drop(3), ch(2, -1, 0))
	refuses(t, w, take(0), api.ErrFull)
	does(t, w, drop(4), ch(2, -1, 0))
	mints(t, does(t, w, take(0), ch(0, -1, 4), ch(2, 1, 4), ch(3, 1, 4), ch(3, 1, 5)), msg(0, at(4), 1, 1), 257, 258, 259)
}

func TestNumbersNeverComeAgain(t *testing.T) { // P25.4
	w := full(t)
	refuses(t, w, clone(256), api.ErrFull)
	does(t, w, drop(256), ch(2, -1, 0))
	does(t, w, drop(1), ch(2, -1, 0))
	mints(t, does(t, w, clone(2), ch(2, 1, 0)), api.Message{}, 257)
	mints(t, does(t, w, clone(257), ch(2, 1, 0)), api.Message{}, 258)
	refuses(t, w, clone(257), api.ErrFull)
	for id := range 260 {
		drop(id).of(w)
	}
	is(t, "Held", w.Held())
	// The message that waits is the only one of which still one can be minted.
	mints(t, does(t, w, take(0), ch(0, -1, 3), ch(2, 1, 4)), msg(0, at(3), 1, 1), 259)
	for _, id := range []int{0, -1, 1, 256, 257, 258, 260, math.MaxInt, math.MinInt} {
		refuses(t, w, clone(id), api.ErrCap)
		refuses(t, w, drop(id), api.ErrCap)
	}
	is(t, "Held", w.Held(), held(259, 2, 4))
}

func TestLower(t *testing.T) { // P25.4
	w := alone(t, api.Graph{Arity: 2, Nodes: []api.Node{free(true, 0, 2)}})
	does(t, w, lower(2, at(3, 1)), ch(1, -1, 0), ch(1, 1, 3, 1))
	does(t, w, lower(2, at(3, 1)))
	mints(t, does(t, w, clone(2), ch(1, 1, 3, 1)), api.Message{}, 3)
	does(t, w, lower(3, at(3, 4)), ch(1, -1, 3, 1), ch(1, 1, 3, 4))
	does(t, w, lower(2, at(3, 4)), ch(1, -1, 3, 1), ch(1, 1, 3, 4))
	tokens(t, w, ch(0, 1, 0), ch(1, 2, 3, 4))
	for _, u := range [][]uint64{{3, 3}, {2, 9}, {last, 0}, {}} {
		refuses(t, w, lower(2, at(u...)), api.ErrBack)
	}
	does(t, w, lower(2, at(last, last)), ch(1, -1, 3, 4), ch(1, 1, last, last))
	does(t, w, lower(2, at(last, last)))
	is(t, "Held", w.Held(), held(1, 0, 0), held(2, 1, last, last), held(3, 1, 3, 4))
}

func TestEmit(t *testing.T) { // P25.4
	// Places: the free node's 0 and 1, the probes' 2, 3 and 4.
	g := api.Graph{Arity: 1, Nodes: []api.Node{free(true, 0, 2), trap(), trap(), trap()}, Edges: []api.Edge{keyed(0, 3), {From: 0, Out: 1, To: 2}, edge(0, 1), {From: 0, Out: 1, To: 1, Keyed: true}}}
	key := keyOf(2, 3, 0)
	w := begin(t, g, 3, 0)
	goes(t, does(t, w, emit(1, at(3), rec(key, 1), 2), ch(2, 1, 3), ch(4, 1, 3)), route.Out{Worker: 2, M: msg(4, at(3), key, 1)})
	goes(t, does(t, w, emit(2, at(), rec(key, 2), 2), ch(2, 1, 0), ch(3, 1, 0)), route.Out{Worker: 2, M: msg(2, at(), key, 2)})
	waits(t, w, 2, 1)
	waits(t, w, 3, 1)
	waits(t, w, 4, 0)
	is(t, "Held", w.Held(), held(1, 0, 0), held(2, 1, 0))
	does(t, w, lower(1, at(4)), ch(0, -1, 0), ch(0, 1, 4))
	does(t, w, emit(1, at(last), rec(key, 1), 2), ch(2, 1, last), ch(4, 1, last))
	refuses(t, w, emit(1, at(last), rec(key, 1), 1), api.ErrFull)
	step(0).of(w)
	catches(t, w, 1, caught(at(3), key, 1), caught(at(last), key, 1))
	catches(t, w, 2, caught(at(), key, 2))
	catches(t, w, 3)
}

func TestWhatCapabilitiesAreRefusedBy(t *testing.T) { // P25.4, P25.8, P4
	// Places: the free node's 0, the probe's 1.
	w := alone(t, starting())
	does(t, w, lower(1, at(5)), ch(0, -1, 0), ch(0, 1, 5))
	hears(t, w, ch(0, most, 4), ch(0, most-1, 5), ch(0, most, 6), ch(1, most, 0), ch(1, most, 4), ch(1, most, 5))
	for _, id := range []int{0, 2, -1, math.MaxInt, math.MinInt} {
		refuses(t, w, lower(id, at(0, 1)), api.ErrCap)
		refuses(t, w, emit(id, at(0, 1), rec(1, 1), 0), api.ErrCap)
		refuses(t, w, clone(id), api.ErrCap)
		refuses(t, w, drop(id), api.ErrCap)
	}
	refuses(t, w, lower(1, at(0, 1)), api.ErrArity)
	refuses(t, w, lower(1, at(9, 0, 1)), api.ErrArity)
	refuses(t, w, lower(1, at(4)), api.ErrBack)
	refuses(t, w, lower(1, at(6)), api.ErrRange)
	does(t, w, lower(1, at(5)))
	refuses(t, w, emit(1, at(0, 1), rec(1, 1), 0), api.ErrArity)
	refuses(t, w, emit(1, at(4), rec(1, 1), 0), api.ErrBack)
	refuses(t, w, emit(1, at(5), rec(1, 1), 0), api.ErrFull)
	refuses(t, w, emit(1, at(5), rec(1, 1), -1), api.ErrFull)
	refuses(t, w, emit(1, at(5), rec(1, 1), 1), api.ErrRange)
	refuses(t, w, clone(1), api.ErrRange)
	hears(t, w, ch(0, -most, 5))
	hears(t, w, ch(0, -most, 5))
	refuses(t, w, drop(1), api.ErrRange)
	refuses(t, w, lower(1, at(7)), api.ErrRange)
	hears(t, w, ch(0, 1, 5))
	does(t, w, drop(1), ch(0, -1, 5))
	counts(t, w, ch(0, most, 4), ch(0, -most, 5), ch(0, most, 6), ch(1, most, 0), ch(1, most, 4), ch(1, most, 5))

	w = full(t)
	hears(t, w, ch(2, most-256, 0))
	refuses(t, w, clone(257), api.ErrCap)
	refuses(t, w, clone(1), api.ErrFull)
	does(t, w, drop(3), ch(2, -1, 0))
	hears(t, w, ch(2, 1, 0))
	refuses(t, w, clone(1), api.ErrRange)
	hears(t, w, ch(2, -1, 0))
	mints(t, does(t, w, clone(1), ch(2, 1, 0)), api.Message{}, 257)
}
