package script

import (
	"math"
	"slices"
	"strings"
	"testing"

	"sluice/api"
	"sluice/draft"
	"sluice/world"
)

const (
	last     = math.MaxUint64 // the greatest number of a time or a record
	greatest = 2147483647     // the greatest whole
)

func at(numbers ...uint64) api.Time {
	numbers = append(slices.Clone(numbers), 0, 0, 0)
	return api.Time{A: numbers[0], B: numbers[1], C: numbers[2]}
}

func rec(key, val uint64) api.Record { return api.Record{Key: key, Val: val} }

// parses holds that a text is these acts.
func parses(t *testing.T, text string, arity int, want ...world.Act) {
	t.Helper()
	l, n, e := Parse(text, arity)
	if e != api.OK || n != 0 || !slices.Equal(l, want) {
		t.Errorf("Parse(%.60q, %d) = %v, %d, %d, want %v", text, arity, l, n, e, want)
	}
}

// refused holds that a text is not taken, and where.
func refused(t *testing.T, text string, arity, number int, want api.Errno) {
	t.Helper()
	l, n, e := Parse(text, arity)
	if e != want || n != number || len(l) != 0 {
		t.Errorf("Parse(%.60q, %d) = %d acts, %d, %d, want %d, %d", text, arity, len(l), n, e, number, want)
	}
}

// noLine holds that a text's only line is none.
func noLine(t *testing.T, arity int, texts ...string) {
	t.Helper()
	for _, text := range texts {
		refused(t, text, arity, 1, api.ErrLine)
	}
}

// says holds that these acts are told by a text.
func says(t *testing.T, want string, arity int, l ...world.Act) {
	t.Helper()
	if s, e := Text(l, arity); s != want || e != api.OK {
		t.Errorf("Text(%v, %d) = %.60q, %d, want %.60q", l, arity, s, e, want)
	}
}

// fails holds that no text tells these acts.
func fails(t *testing.T, want api.Errno, arity int, l ...world.Act) {
	t.Helper()
	if s, e := Text(l, arity); s != "" || e != want {
		t.Errorf("Text of %d acts, arity %d = %.60q, %d, want %d", len(l), arity, s, e, want)
	}
}

// both holds that a line and an act are each other's.
func both(t *testing.T, line string, arity int, a world.Act) {
	t.Helper()
	parses(t, line+"\n", arity, a)
	says(t, line+"\n", arity, a)
}

// reports holds what a run reports.
func reports(t *testing.T, g api.Graph, workers int, text string, want ...string) {
	t.Helper()
	s, e := Run(bytesOf(t, g), workers, text)
	if lines := strings.Join(want, "\n") + "\n"; e != api.OK || s != lines {
		t.Errorf("Run of %d workers and %.60q = %d,\n%s\nwant\n%s", workers, text, e, s, lines)
	}
}

// noReport holds that there is none, and why.
func noReport(t *testing.T, b []byte, workers int, text string, want api.Errno) {
	t.Helper()
	if s, e := Run(b, workers, text); s != "" || e != want {
		t.Errorf("Run(% x, %d, %.60q) = %q, %d, want %d", b, workers, text, s, e, want)
	}
}

func bytesOf(t *testing.T, g api.Graph) []byte {
	t.Helper()
	b, e := draft.Put(g)
	if e != api.OK {
		t.Fatalf("no bytes of %v: %d", g, e)
	}
	return b
}

// all are lines as a text.
func all(lines ...string) string { return strings.Join(lines, "\n") + "\n" }

func input() api.Node { return api.Node{Kind: api.KInput, Outs: 1} }

func sum() api.Node { return api.Node{Kind: api.KSum, Ins: 1, Outs: 1} }

func trap() api.Node { return api.Node{Kind: api.KProbe, Ins: 1} }

// summed is the first graph of chapter 25: an input, a sum by keys, a probe.
func summed() api.Graph {
	return api.Graph{Arity: 1, Nodes: []api.Node{input(), sum(), trap()}, Edges: []api.Edge{{To: 1, Keyed: true}, {From: 1, To: 2}}}
}

func TestTheExamples(t *testing.T) { // P27.1, P27.2, P27.4: one behind the other
	parses(t, "step 0\n", 1, world.Act{Kind: world.Step}) // 1
	noLine(t, 1, "step 0", "step  0\n", "step 00\n", "Step 0\n", "step 0 \n", "\n")
	refused(t, "step 0\nsend 0 0 5.1 7 8\n", 1, 2, api.ErrLine)
	parses(t, "step 0\nsend 0 0 5.1 7 8\n", 2, world.Act{Kind: world.Step}, world.Act{Kind: world.Send, T: at(5, 1), R: rec(7, 8)})
	parses(t, "", 3)
	noLine(t, 1, "run 0 2147483648\n")

	says(t, "send 1 2 5 7 8\n", 1, world.Act{Kind: world.Send, W: 1, N: 2, T: at(5), R: rec(7, 8)}) // 2
	says(t, "step 0\n", 1, world.Act{Kind: world.Step, N: 9})
	fails(t, api.ErrArg, 1, world.Act{})
	fails(t, api.ErrArg, 1, world.Act{Kind: world.Step, W: -1})

	reports(t, summed(), 1, "send 0 0 0 7 5\nsend 0 0 0 7 3\nstep 0\nclose 0 0\nclose 0 0\nstep 0\n", // 3
		"ok", "ok", "ok", "ok", "no 45", "ok", "outstanding 0", "caught 2 0 7 8", "front 0 2")
}

func TestEachLineOfTheTable(t *testing.T) { // P27.1 to P27.3: both ways, with every arity
	for arity, u := range map[int]struct {
		text string
		t    api.Time
	}{1: {"5", at(5)}, 2: {"5.0", at(5)}, 3: {"0.7.18446744073709551615", at(0, 7, last)}} {
		both(t, "send 1 2 "+u.text+" 3 4", arity, world.Act{Kind: world.Send, W: 1, N: 2, T: u.t, R: rec(3, 4)})
		both(t, "emit 1 2 "+u.text+" 3 4", arity, world.Act{Kind: world.Emit, W: 1, N: 2, T: u.t, R: rec(3, 4)})
		both(t, "advance 1 2 "+u.text, arity, world.Act{Kind: world.Advance, W: 1, N: 2, T: u.t})
		both(t, "lower 1 2 "+u.text, arity, world.Act{Kind: world.Lower, W: 1, N: 2, T: u.t})
		both(t, "close 1 2", arity, world.Act{Kind: world.Close, W: 1, N: 2})
		both(t, "take 1 2", arity, world.Act{Kind: world.Take, W: 1, N: 2})
		both(t, "clone 1 2", arity, world.Act{Kind: world.Clone, W: 1, N: 2})
		both(t, "drop 1 2", arity, world.Act{Kind: world.Drop, W: 1, N: 2})
		both(t, "run 1 2", arity, world.Act{Kind: world.Run, W: 1, N: 2})
		both(t, "hear 1 2", arity, world.Act{Kind: world.Hear, W: 1, From: 2})
		both(t, "pass 1 2", arity, world.Act{Kind: world.Pass, W: 1, From: 2})
		both(t, "step 1", arity, world.Act{Kind: world.Step, W: 1})
	}
}

func TestTheEndsOfNumbers(t *testing.T) { // P27.1 to P27.3: 0, the greatest whole, the greatest number
	both(t, "send 0 0 0 0 0", 1, world.Act{Kind: world.Send})
	both(t, "emit 2147483647 2147483647 18446744073709551615 18446744073709551615 18446744073709551615", 1, world.Act{Kind: world.Emit, W: greatest, N: greatest, T: at(last), R: rec(last, last)})
	both(t, "lower 2147483647 0 18446744073709551615.18446744073709551615.18446744073709551615", 3, world.Act{Kind: world.Lower, W: greatest, T: at(last, last, last)})
	both(t, "send 10 100 0.0 9007199254740993 9223372036854775808", 2, world.Act{Kind: world.Send, W: 10, N: 100, R: rec(1<<53+1, 1<<63)})
	both(t, "hear 2147483647 2147483647", 1, world.Act{Kind: world.Hear, W: greatest, From: greatest})
	both(t, "pass 0 2147483647", 2, world.Act{Kind: world.Pass, From: greatest})
	both(t, "step 2147483647", 3, world.Act{Kind: world.Step, W: greatest})
}

func TestSeveralLines(t *testing.T) { // P27.1 to P27.3: in their order
	text := all("step 3", "step 3", "hear 0 1", "drop 2 8", "advance 1 1 4.4", "step 0")
	l := []world.Act{{Kind: world.Step, W: 3}, {Kind: world.Step, W: 3}, {Kind: world.Hear, From: 1}, {Kind: world.Drop, W: 2, N: 8}, {Kind: world.Advance, W: 1, N: 1, T: at(4, 4)}, {Kind: world.Step}}
	parses(t, text, 2, l...)
	says(t, text, 2, l...)
	for arity := 1; arity <= 3; arity++ {
		parses(t, "", arity)
		says(t, "", arity)
	}
}
