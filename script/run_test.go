package script

import (
	"fmt"
	"math"
	"slices"
	"strings"
	"testing"

	"sluice/api"
	"sluice/draws"
	"sluice/route"
)

func mapper(l ...api.Op) api.Node { return api.Node{Kind: api.KMap, Ins: 1, Outs: 1, Code: l} }

// standing is a graph in which a cycle doesn't advance, behind some nodes.
func standing(ahead ...api.Node) api.Graph {
	many := len(ahead)
	return api.Graph{Arity: 1, Nodes: append(slices.Clip(ahead), mapper(), mapper()), Edges: []api.Edge{{From: many, To: many + 1}, {From: many + 1, To: many}}}
}

// wide is a graph with 128 least paths from its first place to another: each of seven nodes adds to the one number or to the other.
func wide(behind ...api.Node) api.Graph {
	g := api.Graph{Arity: 2}
	for i := range 7 {
		g.Nodes = append(g.Nodes, api.Node{Kind: api.KFree, Ins: 1, Outs: 1, Conns: []api.Conn{{By: api.Path{A: 1 << i}}, {By: api.Path{B: 1 << i}}}})
		if i > 0 {
			g.Edges = append(g.Edges, api.Edge{From: i - 1, To: i})
		}
	}
	g.Nodes = append(g.Nodes, behind...)
	return g
}

// noScripts are texts that no arity takes.
func noScripts() []string {
	return []string{"x", "step 0", "\n", "step 0\nx\n", "\xff", strings.Repeat("x", 65537), strings.Repeat("step 0\n", 2049)}
}

func TestRunOfBytesThatAreNoGraph(t *testing.T) { // P27.4, P4: ahead of the workers and the text
	b := bytesOf(t, summed())
	for _, c := range []struct {
		b []byte
		e api.Errno
	}{
		{nil, api.ErrShort},
		{b[:4], api.ErrShort},
		{b[:len(b)-1], api.ErrShort},
		{append(slices.Clone(b), 0), api.ErrRest},
		{append(slices.Clone(b), b...), api.ErrRest},
		{[]byte{1, 1, 9}, api.ErrKind},
		{[]byte{1, 25}, api.ErrLong},
		{[]byte{0x80, 0}, api.ErrForm},
		{[]byte{0xff, 0xff, 0xff, 0xff, 0xff, 0xff, 0xff, 0xff, 0xff, 1}, api.ErrRange},
	} {
		for _, workers := range []int{1, 8, 0, 9, -1} {
			for _, text := range append(noScripts(), "", "step 0\n") {
				noReport(t, c.b, workers, text, c.e)
			}
		}
	}
}

func TestRunOfGraphsThatMayNotBe(t *testing.T) { // P27.4, P4: world.New's errors, ahead of the text
	bad := mapper(api.Op{Kind: 99})
	none, keyless := standing(bad), summed()
	none.Arity, keyless.Edges[0].Keyed = 4, false
	for _, c := range []struct {
		g api.Graph
		e api.Errno
	}{
		{api.Graph{}, api.ErrArity},
		{none, api.ErrArity},
		{api.Graph{Arity: 1, Nodes: []api.Node{bad, {Kind: api.KJoin, Ins: 5, Outs: 1}}}, api.ErrPorts},
		{api.Graph{Arity: 1, Nodes: []api.Node{{Kind: api.KLoop, Ins: 1, Outs: 1, Bound: 65}}}, api.ErrField},
		{api.Graph{Arity: 1, Nodes: []api.Node{{Kind: api.KFree, Ins: 1, Conns: []api.Conn{{}}}}}, api.ErrConn},
		{api.Graph{Arity: 1, Edges: []api.Edge{{}}}, api.ErrEdge},
		{keyless, api.ErrKeyed},
		{api.Graph{Arity: 1, Nodes: []api.Node{bad}}, api.ErrCode},
		{standing(bad), api.ErrCode},
		{wide(bad), api.ErrCode},
	} {
		for _, workers := range []int{1, 8, 0, 9, -1} {
			for _, text := range append(noScripts(), "", "step 0\n") {
				noReport(t, bytesOf(t, c.g), workers, text, c.e)
			}
		}
	}
}

func TestRunOfWorkersThatMayNotBe(t *testing.T) { // P27.4, P4: ahead of cycles, least paths and the text
	for _, g := range []api.Graph{summed(), {Arity: 3}, standing(), wide()} {
		for _, workers := range []int{0, 9, -1, 10, math.MaxInt, math.MinInt} {
			for _, text := range append(noScripts(), "", "step 0\n") {
				noReport(t, bytesOf(t, g), workers, text, api.ErrWorker)
			}
		}
	}
	for workers := 1; workers <= api.MaxWorkers; workers++ {
		for _, text := range append(noScripts(), "", "step 0\n") {
			noReport(t, bytesOf(t, standing()), workers, text, api.ErrCycle)
			noReport(t, bytesOf(t, wide()), workers, text, api.ErrWide)
		}
	}
}

func TestRunOfTextsThatAreNoScript(t *testing.T) { // P27.4: Parse's errors, by the graph's arity
	for arity := 1; arity <= 3; arity++ {
		g := summed()
		g.Arity = arity
		b := bytesOf(t, g)
		for _, text := range noScripts() {
			_, _, e := Parse(text, arity)
			noReport(t, b, 1, text, e)
			noReport(t, b, 8, text, e)
		}
		for other := 1; other <= 3; other++ {
			line := "advance 0 0 " + strings.Join(slices.Repeat([]string{"0"}, other), ".") + "\n"
			if other != arity {
				noReport(t, b, 1, line, api.ErrLine)
				continue
			}
			if s, e := Run(b, 1, line); e != api.OK || !strings.HasPrefix(s, "ok\n") {
				t.Errorf("arity %d: %q, %d", arity, s, e)
			}
		}
	}
	noReport(t, bytesOf(t, summed()), 1, strings.Repeat("x", 65537), api.ErrLong)
	noReport(t, bytesOf(t, summed()), 1, strings.Repeat("step 0\n", 2049), api.ErrLong)
	noReport(t, bytesOf(t, summed()), 1, "step 0\n"+strings.Repeat("step 0\n", 2049)+"x", api.ErrLong)
	noReport(t, bytesOf(t, summed()), 1, "x\n"+strings.Repeat("step 0\n", 2049), api.ErrLine)
}

func TestEmptyScripts(t *testing.T) { // P27.4
	reports(t, summed(), 1, "", "outstanding 0", "token 0 0 1", "front 0 2 0")
	reports(t, summed(), 3, "", "outstanding 0", "token 0 0 3", "front 0 2 0", "front 1 2 0", "front 2 2 0")
	for workers := 1; workers <= api.MaxWorkers; workers++ {
		reports(t, api.Graph{Arity: 2}, workers, "", "outstanding 0")
		reports(t, api.Graph{Arity: 3, Nodes: []api.Node{input()}}, workers, "", "outstanding 0", fmt.Sprint("token 0 0.0.0 ", workers))
	}
	reports(t, api.Graph{Arity: 1, Nodes: []api.Node{trap(), trap()}}, 2, "", "outstanding 0", "front 0 0", "front 0 1", "front 1 0", "front 1 1")
	reports(t, draws.Rounds(), 1, "", "outstanding 0", "token 1 0 1", "token 2 0 1", "front 0 3 0")
}

// keyOf is a key that belongs to a worker.
func keyOf(worker, workers int) uint64 {
	for key := uint64(0); ; key++ {
		if route.To(key, workers) == worker {
			return key
		}
	}
}

func TestTheWorldOfTwo(t *testing.T) { // P27.4: chapter 26's examples, as a script
	k := fmt.Sprint(keyOf(1, 2))
	script := []string{"send 0 0 0 " + k + " 5", "pass 1 0", "step 1", "close 0 0", "close 1 0", "hear 1 0", "hear 1 0", "step 1", "hear 0 1", "hear 0 1", "hear 0 1", "hear 0 1", "step 2", "hear 0 0", "pass 0 7", "pass 1 0"}
	lines := []string{"ok", "ok 1 0 " + k + " 5", "ok", "ok", "ok", "ok", "ok", "ok", "ok", "ok", "ok", "no 43", "no 40", "no 40", "no 40", "no 43"}
	end := map[int][]string{
		0:  {"outstanding 0", "token 0 0 2", "front 0 2 0", "front 1 2 0"},
		1:  {"outstanding 1", "token 0 0 2", "token 1 0 1", "front 0 2 0", "front 1 2 0"},
		2:  {"outstanding 1", "token 0 0 2", "token 1 0 1", "front 0 2 0", "front 1 2 0"},
		3:  {"outstanding 0", "token 0 0 2", "token 2 0 1", "front 0 2 0", "front 1 2 0"},
		5:  {"outstanding 0", "token 2 0 1", "front 0 2 0", "front 1 2 0"},
		7:  {"outstanding 0", "token 2 0 1", "front 0 2 0", "front 1 2 0"},
		8:  {"outstanding 0", "caught 2 0 " + k + " 5", "front 0 2 0", "front 1 2"},
		10: {"outstanding 0", "caught 2 0 " + k + " 5", "front 0 2 0", "front 1 2"},
		11: {"outstanding 0", "caught 2 0 " + k + " 5", "front 0 2", "front 1 2"},
		16: {"outstanding 0", "caught 2 0 " + k + " 5", "front 0 2", "front 1 2"},
	}
	for many, behind := range end {
		text := ""
		if many > 0 {
			text = all(script[:many]...)
		}
		reports(t, summed(), 2, text, append(slices.Clone(lines[:many]), behind...)...)
	}
}

// freely is a free node with an in-port and two out-ports, an input that leads to it, and probes behind each out-port.
func freely() api.Graph {
	return api.Graph{Arity: 2, Nodes: []api.Node{
		trap(),
		{Kind: api.KFree, Ins: 1, Outs: 2, Conns: []api.Conn{{By: api.Path{A: 1}}, {Out: 1}, {Out: 1, By: api.Path{B: 3}}}},
		input(),
		trap(),
	}, Edges: []api.Edge{{From: 2, To: 1}, {From: 1, To: 0}, {From: 1, Out: 1, To: 3}, {From: 1, Out: 1, To: 0}}} // Places: 0; 1 in, 2 3 out; 4; 5.
}

func TestAFreeNode(t *testing.T) { // P27.4: Take and Clone with their numbers, Take's behind its message; several probes
	reports(t, freely(), 1, all("take 0 1", "take 0 0", "send 0 2 4.5 8 9", "send 0 2 18446744073709551615.7 1 18446744073709551615", "take 0 1", "take 0 1", "take 0 1",
		"clone 0 2", "clone 0 99", "emit 0 3 4.8 1 1", "emit 0 1 5.5 2 2", "emit 0 1 4.9 2 2", "lower 0 2 4.4", "lower 0 2 6.5", "drop 0 3", "drop 0 3", "clone 0 6", "step 0", "emit 0 6 4.5 3 3", "close 0 2", "run 0 1"),
		"no 43", "no 42", "ok", "ok", "ok 1 4.5 8 9 1 2 3", "ok 1 18446744073709551615.7 1 18446744073709551615 4 5", "no 43",
		"ok 6", "no 47", "ok", "ok", "no 48", "no 48", "ok", "ok", "no 47", "ok 7", "ok", "ok", "ok", "no 41",
		"outstanding 2",
		"token 0 4.5 1", "token 2 5.5 1", "token 3 4.5 2", "token 3 6.5 1", "token 3 18446744073709551615.7 1", "token 3 18446744073709551615.10 1", "token 5 4.5 1",
		"caught 0 4.8 1 1", "caught 0 5.5 2 2", "caught 3 4.8 1 1",
		"front 0 0 4.5", "front 0 3 4.5")
}

func TestTakeOfNothingToMint(t *testing.T) { // P27.4: a message, and no number
	g := freely()
	g.Nodes[1].Conns = g.Nodes[1].Conns[:1]
	reports(t, g, 1, all("send 0 2 18446744073709551615.3 7 8", "take 0 1", "close 0 2"), "ok", "ok 1 18446744073709551615.3 7 8", "ok", "outstanding 0", "front 0 0", "front 0 3")
}

func TestFrontsOfSeveralTimes(t *testing.T) { // P27.4: in their order, one worker behind the other, and one probe behind the other
	g := freely()
	reports(t, g, 2, all("send 0 2 5.0 1 1", "send 0 2 2.7 1 1", "send 0 2 0.9 1 1", "close 0 2", "close 1 2", "hear 0 1", "drop 1 1"),
		"ok", "ok", "ok", "ok", "ok", "ok", "no 47",
		"outstanding 3", "token 1 0.9 1", "token 1 2.7 1", "token 1 5.0 1",
		"front 0 0 0.9 2.7 5.0", "front 0 3 0.9 2.7 5.0", "front 1 0 0.0", "front 1 3 0.0")
}

func TestCaughtAtAnyWorker(t *testing.T) { // P27.4: all of them together, in their order, as often as each is there
	g := api.Graph{Arity: 1, Nodes: []api.Node{input(), trap(), trap()}, Edges: []api.Edge{{To: 1, Keyed: true}, {To: 2}}}
	text := ""
	var sent [][3]uint64
	for i := range uint64(12) {
		one := [3]uint64{i * 5 % 4, keyOf(int(i%2), 3), i % 5}
		sent = append(sent, one, one)
		text += strings.Repeat(fmt.Sprintf("send %d 0 %d %d %d\n", i%3, one[0], one[1], one[2]), 2)
	}
	text += strings.Repeat("pass 0 1\npass 1 0\npass 0 2\npass 1 2\n", 4) + "step 0\nstep 1\nstep 2\n"
	slices.SortFunc(sent, func(a, b [3]uint64) int { return slices.Compare(a[:], b[:]) })
	var want []string
	for node := 1; node <= 2; node++ {
		for _, c := range sent {
			want = append(want, fmt.Sprint("caught ", node, " ", c[0], " ", c[1], " ", c[2]))
		}
	}
	s, e := Run(bytesOf(t, g), 3, text)
	got := slices.DeleteFunc(strings.Split(s, "\n"), func(line string) bool { return !strings.HasPrefix(line, "caught") })
	if e != api.OK || strings.Contains(s, "no ") || !slices.Equal(got, want) {
		t.Errorf("%d, %v, want %v", e, got, want)
	}
}

func TestRoom(t *testing.T) { // DOC.md, Room; its ninth example of the whole
	g := api.Graph{Arity: 1, Nodes: []api.Node{input(), trap(), trap(), input()}, Edges: []api.Edge{{To: 1}, {To: 2}, {From: 3, To: 1}}} // Places: 0; 1; 2; 3.
	two := strings.Repeat("send 0 0 0 1 1\n", 1023)
	ok := slices.Repeat([]string{"ok"}, 1023)
	end := func(outstanding, first, second int) []string {
		return []string{fmt.Sprint("outstanding ", outstanding), "token 0 0 1", fmt.Sprint("token 1 0 ", first), fmt.Sprint("token 2 0 ", second), "token 3 0 1", "front 0 1 0", "front 0 2 0"}
	}
	reports(t, g, 1, two+all("send 0 3 0 1 1", "send 0 0 0 1 1"), slices.Concat(ok, []string{"ok", "no 44"}, end(2047, 1024, 1023))...)
	reports(t, g, 1, two+all("send 0 3 0 1 1", "send 0 3 0 1 1", "send 0 3 0 1 1"), slices.Concat(ok, []string{"ok", "ok", "no 44"}, end(2048, 1025, 1023))...)
	reports(t, g, 1, two+all("send 0 0 0 1 1", "send 0 0 0 1 1"), slices.Concat(ok, []string{"ok", "no 44"}, end(2048, 1024, 1024))...)
}

func TestAsManyActsAsMayBe(t *testing.T) { // P27.4: none of them is left out
	reports(t, summed(), 1, strings.Repeat("step 0\n", 2048), append(slices.Repeat([]string{"ok"}, 2048), "outstanding 0", "token 0 0 1", "front 0 2 0")...)
	reports(t, summed(), 8, strings.Repeat("step 8\n", 2047)+"close 7 0\n", append(append(slices.Repeat([]string{"no 40"}, 2047), "ok", "outstanding 0", "token 0 0 7"), "front 0 2 0", "front 1 2 0", "front 2 2 0", "front 3 2 0", "front 4 2 0", "front 5 2 0", "front 6 2 0", "front 7 2 0")...)
}

func TestARoundThatIsLetGo(t *testing.T) { // DOC.md's fifth and sixth examples of the whole
	g := draws.Ring()
	reports(t, g, 1, all("send 0 0 0 4 4", "send 0 0 7 4 4", "close 0 0", "step 0", "step 0", "step 0"), "ok", "ok", "ok", "ok", "ok", "ok",
		"outstanding 0", "caught 3 0 4 4", "caught 3 1 4 4", "caught 3 2 4 4", "caught 3 7 4 4", "front 0 3")
	g = api.Graph{Arity: 1, Nodes: []api.Node{input(), {Kind: api.KJoin, Ins: 2, Outs: 1}, sum(), {Kind: api.KLoop, Ins: 1, Outs: 1, By: api.Path{A: 1}, Bound: 2}, trap()},
		Edges: []api.Edge{{To: 1}, {From: 1, To: 2, Keyed: true}, {From: 2, To: 3}, {From: 3, To: 1, In: 1}, {From: 2, To: 4}}}
	reports(t, g, 1, all("send 0 0 1 1 5", "send 0 0 0 1 4", "close 0 0")+strings.Repeat("step 0\n", 7), append(slices.Repeat([]string{"ok"}, 10),
		"outstanding 0", "caught 4 0 1 4", "caught 4 1 1 9", "caught 4 2 1 9", "front 0 4")...)
}
